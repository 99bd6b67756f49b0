/- Steps that reckon, and that jump (layer 6): contracts of Step at the instructions Set to Jnz. The conditions: the frame and the code lie there, the instruction may be. -/
import Derived.Test.YtobbmhboahognaaDoorVmStep
import Derived.Deep.RegionHeld3
namespace Go.Proofs.YtobbmhboahognaaDoor
open Go.RowKit
set_option linter.unusedVariables false

theorem below_one (w : World) (o : Obj) : Below w.heap.size w (w.alloc o) := (Below.refl _ _).alloc (Nat.le_refl _) _
theorem sbox_new {w w1 : World} {b : Nat} {N : List Nat} {f : Frm} {A : Option Addr} {cap : Nat} {C : Option Addr} {l : List Inst} {k : Nat} {op a b' c' v m wh : Int} (h : StepIn w1 b N f A cap C l k ⟨op, a, b', c', v, m, wh⟩) (hb : Below w.heap.size w w1) (hl : b < w.heap.size) :
    SBox w ((w1.alloc (.cells #[.int .i64 op, .int .i64 a, .int .i64 b', .int .i64 c', .int .u64 v, .int .i64 m, .int .i64 wh] 52)).drew) w1.heap.size b N f A cap C l k ⟨op, a, b', c', v, m, wh⟩ := by
  have hr : RBox w1 _ w1.heap.size b N f A cap op a b' c' v m wh := (RBox.new h.fr op a b' c' v m wh).drew
  refine ⟨⟨⟨hr.x.r, hb.trans (hr.x.b.mono hb.size), hb.size⟩, hr.f⟩, h.below ((below_one w1 _).drew), ?_⟩
  exact Nat.lt_of_lt_of_le hl hb.size
theorem box_set {w V : World} {X : Nat} {op a b' c v m wh : Int} (h : IBox w V X op a b' c v m wh) (p : Addr) (hp : X ≠ p.block) (u : Value) :
    (V.setCell p u).cell? ⟨X, 0, none⟩ = some (.int .i64 op) ∧ (V.setCell p u).cell? ⟨X, 1, none⟩ = some (.int .i64 a) ∧ (V.setCell p u).cell? ⟨X, 2, none⟩ = some (.int .i64 b') ∧ (V.setCell p u).cell? ⟨X, 3, none⟩ = some (.int .i64 c) ∧ (V.setCell p u).cell? ⟨X, 4, none⟩ = some (.int .u64 v) ∧
    (V.setCell p u).cell? ⟨X, 5, none⟩ = some (.int .i64 m) ∧ (V.setCell p u).cell? ⟨X, 6, none⟩ = some (.int .i64 wh) := by
  have r := h.r.other p hp u
  exact ⟨r.cell 0 (by simp), r.cell 1 (by simp), r.cell 2 (by simp), r.cell 3 (by simp), r.cell 4 (by simp), r.cell 5 (by simp), r.cell 6 (by simp)⟩
/-- What a step leaves that goes on. -/
def WentPost (b : Nat) (N : List Nat) (f : Frm) (F : List Nat) (w : World) (e : Ending) (w' : World) : Prop := e = .returned (.tuple #[.int .i64 0, .nilIface]) ∧ FrameAt w' b N f ∧ Only F w w'
theorem went_below {w W : World} {b : Nat} (h : Below w.heap.size w W) : Only [b] w W := Only.mono (F := []) (Only.of_below h) (by simp)

set_option maxHeartbeats 4000000 in
set_option maxRecDepth 100000 in
theorem step_set {w : World} {b : Nat} {N : List Nat} {f : Frm} {A : Option Addr} {cap : Nat} {C : Option Addr} {l : List Inst} {k : Nat} {op b' c' v m wh : Int} {r : Nat} (h : StepIn w b N f A cap C l k ⟨op, r, b', c', v, m, wh⟩) (hx : okB ⟨op, r, b', c', v, m, wh⟩ l.length = true) (capC : Nat) (M : Value) (hr2 : r < 32) (hop : 1 ≤ op ∧ op ≤ 11) :
    Calls Tryd.prog 12 #[.pointer (some ⟨b, 0, none⟩), .slice C l.length capC, M] w (WentPost b N ⟨k + 1, f.r.set r (resP op v (regV f b') (valP f ⟨op, r, b', c', v, m, wh⟩)), f.back⟩ [b] w) := by
  obtain ⟨y, hy⟩ : ∃ y, y = resP op v (regV f b') (valP f ⟨op, r, b', c', v, m, wh⟩) := ⟨_, rfl⟩
  rw [← hy]
  have HY := Lib.hid hy
  clear hy
  have hbw := h.fr.top.lt
  have c := h.fr.pc
  rw [h.pc] at c
  obtain ⟨p, rfl, hp, c0, c1, c2, c3, c4, c5, c6⟩ := h.cells
  have lt := h.lt
  have ll := h.ll
  have VA := Lib.hid (fun W => vvalid_any op r b' c' v m wh l.length (by omega) (by omega) h.cok.1 h.cok.2 W)
  rw [hx] at VA
  simp only at c0 c1 c2 c3 c4 c5 c6
  have H := Lib.hid h
  obtain ⟨n, hn⟩ : ∃ n, n = l.length := ⟨_, rfl⟩
  rw [← hn] at VA lt ll ⊢
  clear h hp hx hn
  go_enter Tryd.func12, Tryd.ntmps12
  go_wp2_with fail
  go_at_call 41
  refine (VA.out _).mono ?_
  rintro e w1 ⟨rfl, hb⟩
  have H1 := Lib.hid (H.out.below hb)
  have HB := Lib.hid hb
  clear hb c c0 c1 c2 c3 c4 c5 c6
  have c := H1.out.fr.pc
  rw [H1.out.pc] at c
  obtain ⟨p', e', hp, c0, c1, c2, c3, c4, c5, c6⟩ := H1.out.cells
  obtain rfl : p = p' := Option.some.inj e'
  simp only at c0 c1 c2 c3 c4 c5 c6
  clear e'
  have hlb := H1.out.fr.top.lt
  have pb : (p.add (k * 7)).block < w1.heap.size := by rw [ChangeShapes.block_add]; exact hp
  have S0 := Lib.hid (sbox_new H1.out HB.out hbw)
  have hz1 := HB.out.size
  go_upto_region 3 with fail
  go_cut [0, 1, 2, 6, 7, 8, 9] from 8 to 168 (fun s0 s1 s2 s6 s7 s8 s9 w' => ∃ X, s0 = .pointer (some ⟨b, 0, none⟩) ∧ s1 = .slice (some p) n capC ∧ s2 = M ∧ s6 = .int .i64 0 ∧ s7 = .nilIface ∧ s8 = .pointer (some ⟨X, 0, none⟩) ∧ s9 = .int .i64 ((k : Int) + 1) ∧ SBox w w' X b N f A cap (some p) l k ⟨op, r, b', c', v, m, wh⟩)
  case first =>
   as_aux_lemma =>
    go_region
    go_wp2_with fail
    go_meet
    exact ⟨_, rfl, rfl, rfl, rfl, rfl, rfl, rfl, S0.out⟩
  case rest =>
  as_aux_lemma =>
  obtain ⟨X, rfl, rfl, rfl, rfl, rfl, rfl, rfl, S⟩ := hcut
  clear c c0 c1 c2 c3 c4 c5 c6 hlb pb S0 H1 HB VA H hp hz1 hbw
  have hbX := S.bx
  obtain ⟨x0, x1, x2, x3, x4, x5, x6⟩ := S.r.x.cells
  simp only at x0 x1 x2 x3 x4 x5 x6
  have SS := Lib.hid S
  have RS := Lib.hid (fun V (hV : RBox w V X b N f A cap op r b' c' v m wh) => (result_any hV.f S.s.ok op r b' c' v m wh hop S.s.cok.1 S.s.cok.2).mono fun e w' hp => (⟨hp.1.trans (by rw [HY.out]), hV.below hp.2⟩ : e = .returned (.int .u64 y) ∧ RBox w w' X b N f A cap op r b' c' v m wh))
  have FIN := Lib.hid (fun V (hV : RBox w V X b N f A cap op r b' c' v m wh) (y : Int) => (⟨⟨_, _, (hV.f.setReg r hr2 y).setPc ((k : Int) + 1)⟩, ((went_below hV.x.b).setCell (Or.inl (by simp)) _).setCell (Or.inl (by simp)) _⟩ : FrameAt ((V.setCell ⟨b, 1 + r, none⟩ (.int .u64 y)).setCell ⟨b, 0, none⟩ (.int .i64 ((k : Int) + 1))) b N ⟨k + 1, f.r.set r y, f.back⟩ ∧ Only [b] w ((V.setCell ⟨b, 1 + r, none⟩ (.int .u64 y)).setCell ⟨b, 0, none⟩ (.int .i64 ((k : Int) + 1)))))
  have hops : op = 1 ∨ op = 2 ∨ op = 3 ∨ op = 4 ∨ op = 5 ∨ op = 6 ∨ op = 7 ∨ op = 8 ∨ op = 9 ∨ op = 10 ∨ op = 11 := by omega
  have n16 : (op == 16) = false := by simp; omega
  have n15 : (op == 15) = false := by simp; omega
  have n12 : (op == 12) = false := by simp; omega
  have n13 : (op == 13) = false := by simp; omega
  have n14 : (op == 14) = false := by simp; omega
  have n17 : (op == 17) = false := by simp; omega
  have n18 : (op == 18) = false := by simp; omega
  have n19 : (op == 19) = false := by simp; omega
  have n20 : (op == 20) = false := by simp; omega
  have n21 : (op == 21) = false := by simp; omega
  clear hop S
  go_upto_if 72 with fail
  go_cut [72] from 72 to 83 (fun st w' => st = .bool true ∧ wc = w')
  case first =>
   as_aux_lemma =>
    rcases hops with rfl | rfl | rfl | rfl | rfl | rfl | rfl | rfl | rfl | rfl | rfl
    all_goals
      go_wp2_with fail
      go_meet
      exact ⟨rfl, rfl⟩
  case rest =>
  obtain ⟨rfl, rfl⟩ := hcut
  have RD : RBox w wc.drew X b N f A cap op r b' c' v m wh := SS.out.r.drew
  have hr3 : (r : Int) < 32 := by omega
  go_upto_region 41 with fail
  go_region_held3 (fun w' => w'.cell? ⟨X, 0, none⟩ = some (.int .i64 op) ∧ w'.cell? ⟨X, 1, none⟩ = some (.int .i64 r) ∧ w'.cell? ⟨X, 2, none⟩ = some (.int .i64 b') ∧ w'.cell? ⟨X, 3, none⟩ = some (.int .i64 c') ∧ w'.cell? ⟨X, 4, none⟩ = some (.int .u64 v) ∧ w'.cell? ⟨X, 5, none⟩ = some (.int .i64 m) ∧ w'.cell? ⟨X, 6, none⟩ = some (.int .i64 wh)) (first | exact KP.out _ (by simp; omega) _ | go_keep)
    (first
      | (go_at_call 46; ((with_reducible refine (RS.out _ (by exact RD)).mono ?_); rintro e w2 ⟨rfl, R2⟩; obtain ⟨x0, x1, x2, x3, x4, x5, x6⟩ := R2.x.cells; have fr := R2.f.reg r hr2; have fz := R2.f.free (1 + r) (by omega); have KP := Lib.hid (box_set R2.x))))
  all_goals
    have FN := Lib.hid (FIN.out _ R2 y)
    have g0 := R2.f.pc
    have g1 := R2.f.free 0 (by omega)
    go_wp2_with fail
    go_ret2
    exact ⟨rfl, FN.out.1, FN.out.2⟩

set_option maxHeartbeats 4000000 in
set_option maxRecDepth 100000 in
theorem step_jump {w : World} {b : Nat} {N : List Nat} {f : Frm} {A : Option Addr} {cap : Nat} {C : Option Addr} {l : List Inst} {k : Nat} {op b' c' v m wh : Int} {r : Nat} (h : StepIn w b N f A cap C l k ⟨op, r, b', c', v, m, wh⟩) (hx : okB ⟨op, r, b', c', v, m, wh⟩ l.length = true) (capC : Nat) (M : Value) (hr2 : r < 32) (hop : op = 12 ∨ op = 13 ∨ op = 14) (hv : v < l.length) :
    Calls Tryd.prog 12 #[.pointer (some ⟨b, 0, none⟩), .slice C l.length capC, M] w (WentPost b N ⟨if jumpP op (f.r.getD r 0) then v else k + 1, f.r, f.back⟩ [b] w) := by
  obtain ⟨q, hq⟩ : ∃ q, q = jumpP op (f.r.getD r 0) := ⟨_, rfl⟩
  rw [← hq]
  have HQ := Lib.hid hq
  obtain ⟨y, hy⟩ : ∃ y : Int, y = if q then v else k + 1 := ⟨_, rfl⟩
  rw [← hy]
  have HY := Lib.hid hy
  clear hq hy
  have wv : IntKind.i64.wrap v = v := by have := h.cok.1; have := h.ll; simp only at *; exact IntWalk.i64_in _ (by omega)
  have HOP := Lib.hid hop
  clear hop
  have hbw := h.fr.top.lt
  have c := h.fr.pc
  rw [h.pc] at c
  obtain ⟨p, rfl, hp, c0, c1, c2, c3, c4, c5, c6⟩ := h.cells
  have lt := h.lt
  have ll := h.ll
  have VA := Lib.hid (fun W => vvalid_any op r b' c' v m wh l.length (by omega) (by omega) h.cok.1 h.cok.2 W)
  rw [hx] at VA
  simp only at c0 c1 c2 c3 c4 c5 c6
  have H := Lib.hid h
  obtain ⟨n, hn⟩ : ∃ n, n = l.length := ⟨_, rfl⟩
  rw [← hn] at VA lt ll ⊢
  clear h hp hx hn hv
  go_enter Tryd.func12, Tryd.ntmps12
  go_wp2_with fail
  go_at_call 41
  refine (VA.out _).mono ?_
  rintro e w1 ⟨rfl, hb⟩
  have H1 := Lib.hid (H.out.below hb)
  have HB := Lib.hid hb
  clear hb c c0 c1 c2 c3 c4 c5 c6
  have c := H1.out.fr.pc
  rw [H1.out.pc] at c
  obtain ⟨p', e', hp, c0, c1, c2, c3, c4, c5, c6⟩ := H1.out.cells
  obtain rfl : p = p' := Option.some.inj e'
  simp only at c0 c1 c2 c3 c4 c5 c6
  clear e'
  have hlb := H1.out.fr.top.lt
  have pb : (p.add (k * 7)).block < w1.heap.size := by rw [ChangeShapes.block_add]; exact hp
  have S0 := Lib.hid (sbox_new H1.out HB.out hbw)
  have hz1 := HB.out.size
  go_upto_region 3 with fail
  go_cut [0, 1, 2, 6, 7, 8, 9] from 8 to 168 (fun s0 s1 s2 s6 s7 s8 s9 w' => ∃ X, s0 = .pointer (some ⟨b, 0, none⟩) ∧ s1 = .slice (some p) n capC ∧ s2 = M ∧ s6 = .int .i64 0 ∧ s7 = .nilIface ∧ s8 = .pointer (some ⟨X, 0, none⟩) ∧ s9 = .int .i64 ((k : Int) + 1) ∧ SBox w w' X b N f A cap (some p) l k ⟨op, r, b', c', v, m, wh⟩)
  case first =>
   as_aux_lemma =>
    go_region
    go_wp2_with fail
    go_meet
    exact ⟨_, rfl, rfl, rfl, rfl, rfl, rfl, rfl, S0.out⟩
  case rest =>
  as_aux_lemma =>
  obtain ⟨X, rfl, rfl, rfl, rfl, rfl, rfl, rfl, S⟩ := hcut
  clear c c0 c1 c2 c3 c4 c5 c6 hlb pb S0 H1 HB VA H hp hz1 hbw
  have hbX := S.bx
  obtain ⟨x0, x1, x2, x3, x4, x5, x6⟩ := S.r.x.cells
  simp only at x0 x1 x2 x3 x4 x5 x6
  have SS := Lib.hid S
  have JP := Lib.hid ((jumps_any S.r.f op b' c' v m wh r hr2 (by have := HOP.out; omega)).mono fun e w' hp => (⟨hp.1.trans (by rw [HQ.out]), S.r.below hp.2⟩ : e = .returned (.bool q) ∧ RBox w w' X b N f A cap op r b' c' v m wh))
  have FIN := Lib.hid (fun V (hV : RBox w V X b N f A cap op r b' c' v m wh) (y : Int) => (⟨⟨_, _, hV.f.setPc y⟩, (went_below hV.x.b).setCell (Or.inl (by simp)) _⟩ : FrameAt (V.setCell ⟨b, 0, none⟩ (.int .i64 y)) b N ⟨y, f.r, f.back⟩ ∧ Only [b] w (V.setCell ⟨b, 0, none⟩ (.int .i64 y))))
  have hop := HOP.out
  clear S HOP
  rcases hop with rfl | rfl | rfl
  all_goals
    go_wp2_with fail
    go_at_call 43
    refine JP.out.mono ?_
    rintro e w2 ⟨rfl, R2⟩
    clear x0 x1 x2 x3 x4 x5 x6
    obtain ⟨x0, x1, x2, x3, x4, x5, x6⟩ := R2.x.cells
    have g0 := R2.f.pc
    have g1 := R2.f.free 0 (by omega)
    have RR := Lib.hid R2
    clear R2
    cases q
    · have FN := Lib.hid (FIN.out _ RR.out (k + 1))
      go_wp2_with fail
      go_ret2
      exact ⟨rfl, by rw [show y = k + 1 by rw [HY.out]; simp]; exact FN.out.1, FN.out.2⟩
    · have FN := Lib.hid (FIN.out _ RR.out v)
      go_wp2_with fail
      go_ret2
      exact ⟨rfl, by rw [show y = v by rw [HY.out]; simp]; exact FN.out.1, FN.out.2⟩
end Go.Proofs.YtobbmhboahognaaDoor
