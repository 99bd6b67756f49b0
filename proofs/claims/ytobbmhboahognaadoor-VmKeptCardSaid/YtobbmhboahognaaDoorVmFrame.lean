/- The program's frame (layer 6): how it lies in memory; contracts of register, Value and Address. The condition: the frame lies there. -/
import Derived.Test.YtobbmhboahognaaDoorVmPlain
import Derived.Test.YtobbmhboahognaaDoorVmStrike
import Derived.Test.YtobbmhboahognaaDoorLawClose
import Derived.Test.YtobbmhboahognaaDoorArithA
import Derived.Deep.QuietTactic
import Derived.BigQuiet
namespace Go.Proofs.YtobbmhboahognaaDoor
open Go.RowKit
set_option linter.unusedVariables false

/-- A frame's cells. -/
def Frm.cs (f : Frm) (A : Option Addr) (cap : Nat) : List Value := .int .i64 f.pc :: (f.r.map (Value.int .u64) ++ [.slice A f.back.length cap])
/-- The frame f lies at block b, its stack's numbers at A, apart from the blocks of N. -/
structure FrameIn (w : World) (b : Nat) (N : List Nat) (f : Frm) (A : Option Addr) (cap : Nat) : Prop where
  top : Row w b (f.cs A cap)
  bk : IntsIn w .i64 A f.back
  cap : f.back.length ≤ cap
  ap : ∀ a, A = some a → a.block ∉ N ∧ a.block ≠ b ∧ a.block < w.heap.size
  len : f.r.length = 32
def FrameAt (w : World) (b : Nat) (N : List Nat) (f : Frm) : Prop := ∃ A cap, FrameIn w b N f A cap
/-- What a frame may hold. -/
structure FrmOk (f : Frm) : Prop where
  r0 : ∀ i, 0 ≤ f.r.getD i 0
  r1 : ∀ i, f.r.getD i 0 ≤ 18446744073709551615
  bl : f.back.length ≤ 8
theorem Frm.cs_length (f : Frm) (A : Option Addr) (cap : Nat) (h : f.r.length = 32) : (f.cs A cap).length = 34 := by simp [Frm.cs, h]
theorem FrameIn.pc {w : World} {b : Nat} {N : List Nat} {f : Frm} {A : Option Addr} {cap : Nat} (h : FrameIn w b N f A cap) : w.cell? ⟨b, 0, none⟩ = some (.int .i64 f.pc) := h.top.cell 0 (by rw [Frm.cs_length _ _ _ h.len]; omega)
theorem FrameIn.reg {w : World} {b : Nat} {N : List Nat} {f : Frm} {A : Option Addr} {cap : Nat} (h : FrameIn w b N f A cap) (i : Nat) (hi : i < 32) : w.cell? ⟨b, 1 + i, none⟩ = some (.int .u64 (f.r.getD i 0)) := by
  have hl := h.len
  rw [h.top.cell (1 + i) (by rw [Frm.cs_length _ _ _ hl]; omega), ← List.getElem?_eq_getElem, Frm.cs, Nat.add_comm 1 i, List.getElem?_cons_succ, List.getElem?_append_left (by rw [List.length_map]; omega)]
  simp [hl, hi]
theorem FrameIn.back {w : World} {b : Nat} {N : List Nat} {f : Frm} {A : Option Addr} {cap : Nat} (h : FrameIn w b N f A cap) : w.cell? ⟨b, 33, none⟩ = some (.slice A f.back.length cap) := by
  have hl := h.len
  rw [h.top.cell 33 (by rw [Frm.cs_length _ _ _ hl]; omega), ← List.getElem?_eq_getElem, Frm.cs, List.getElem?_cons_succ, List.getElem?_append_right (by rw [List.length_map]; omega)]
  simp [hl]
theorem FrameIn.free {w : World} {b : Nat} {N : List Nat} {f : Frm} {A : Option Addr} {cap : Nat} (h : FrameIn w b N f A cap) (i : Nat) (hi : i < 34) : w.frozen? ⟨b, i, none⟩ = false := h.top.free i (by rw [Frm.cs_length _ _ _ h.len]; exact hi)
theorem IntsIn.keep {w w' : World} {k : IntKind} {A : Option Addr} {zs : List Int} (h : IntsIn w k A zs) (hs : w.heap.size ≤ w'.heap.size) (hb : ∀ a, A = some a → w'.heap[a.block]? = w.heap[a.block]?) : IntsIn w' k A zs := fun i hi => by
  obtain ⟨a, e, hlt, hc⟩ := h i hi
  refine ⟨a, e, by omega, ?_⟩
  rw [World.cell?_of_block (w := w) (w' := w') (a := a.add i) (by rw [ChangeShapes.block_add]; exact hb a e)]
  exact hc
theorem FrameIn.only {w w' : World} {b : Nat} {N F : List Nat} {f : Frm} {A : Option Addr} {cap : Nat} (h : FrameIn w b N f A cap) (ho : Only F w w') (hb : b ∉ F) (hF : ∀ k ∈ F, k ∈ N) : FrameIn w' b N f A cap :=
  ⟨h.top.only ho hb, h.bk.keep ho.size (fun a e => ho.block _ (h.ap a e).2.2 fun hm => (h.ap a e).1 (hF _ hm)), h.cap, fun a e => ⟨(h.ap a e).1, (h.ap a e).2.1, Nat.lt_of_lt_of_le (h.ap a e).2.2 ho.size⟩, h.len⟩
theorem FrameIn.below {w w' : World} {b : Nat} {N : List Nat} {f : Frm} {A : Option Addr} {cap : Nat} (h : FrameIn w b N f A cap) (ho : Below w.heap.size w w') : FrameIn w' b N f A cap := h.only (F := []) (Only.of_below ho) (by simp) (by simp)
theorem FrameIn.drewN {w : World} {b : Nat} {N : List Nat} {f : Frm} {A : Option Addr} {cap : Nat} (h : FrameIn w b N f A cap) (n : Nat) : FrameIn (w.drewN n) b N f A cap := h.only (F := []) ((Only.refl [] w).drewN n) (by simp) (by simp)
theorem FrameAt.only {w w' : World} {b : Nat} {N F : List Nat} {f : Frm} (h : FrameAt w b N f) (ho : Only F w w') (hb : b ∉ F) (hF : ∀ k ∈ F, k ∈ N) : FrameAt w' b N f := by obtain ⟨A, cap, h⟩ := h; exact ⟨A, cap, h.only ho hb hF⟩
theorem FrameIn.setPc {w : World} {b : Nat} {N : List Nat} {f : Frm} {A : Option Addr} {cap : Nat} (h : FrameIn w b N f A cap) (y : Int) : FrameIn (w.setCell ⟨b, 0, none⟩ (.int .i64 y)) b N ⟨y, f.r, f.back⟩ A cap :=
  ⟨h.top.set 0 (by rw [Frm.cs_length _ _ _ h.len]; omega) _, h.bk.keep (by simp [World.setCell]) (fun a e => Below.heap_setCell _ _ _ _ (h.ap a e).2.1), h.cap, fun a e => ⟨(h.ap a e).1, (h.ap a e).2.1, by simpa [World.setCell] using (h.ap a e).2.2⟩, h.len⟩
theorem FrameIn.setReg {w : World} {b : Nat} {N : List Nat} {f : Frm} {A : Option Addr} {cap : Nat} (h : FrameIn w b N f A cap) (i : Nat) (hi : i < 32) (y : Int) : FrameIn (w.setCell ⟨b, 1 + i, none⟩ (.int .u64 y)) b N ⟨f.pc, f.r.set i y, f.back⟩ A cap := by
  have hl := h.len
  refine ⟨?_, h.bk.keep (by simp [World.setCell]) (fun a e => Below.heap_setCell _ _ _ _ (h.ap a e).2.1), h.cap, fun a e => ⟨(h.ap a e).1, (h.ap a e).2.1, by simpa [World.setCell] using (h.ap a e).2.2⟩, by rw [List.length_set]; exact hl⟩
  have := h.top.set (1 + i) (by rw [Frm.cs_length _ _ _ hl]; omega) (.int .u64 y)
  have e : (f.cs A cap).set (1 + i) (.int .u64 y) = (⟨f.pc, f.r.set i y, f.back⟩ : Frm).cs A cap := by
    rw [Frm.cs, Nat.add_comm 1 i, List.set_cons_succ, List.set_append_left _ _ (by rw [List.length_map]; omega), Frm.cs, List.map_set]
  rw [e] at this; exact this
theorem FrameIn.setBack {w : World} {b : Nat} {N : List Nat} {f : Frm} {A B : Option Addr} {cap c : Nat} {bs : List Int} (h : FrameIn w b N f A cap) (hB : IntsIn w .i64 B bs) (hc : bs.length ≤ c) (hap : ∀ a, B = some a → a.block ∉ N ∧ a.block ≠ b ∧ a.block < w.heap.size) :
    FrameIn (w.setCell ⟨b, 33, none⟩ (.slice B bs.length c)) b N ⟨f.pc, f.r, bs⟩ B c := by
  have hl := h.len
  refine ⟨?_, hB.keep (by simp [World.setCell]) (fun a e => Below.heap_setCell _ _ _ _ (hap a e).2.1), hc, fun a e => ⟨(hap a e).1, (hap a e).2.1, by simpa [World.setCell] using (hap a e).2.2⟩, hl⟩
  have := h.top.set 33 (by rw [Frm.cs_length _ _ _ hl]; omega) (.slice B bs.length c)
  have e : (f.cs A cap).set 33 (.slice B bs.length c) = (⟨f.pc, f.r, bs⟩ : Frm).cs B c := by
    rw [Frm.cs, List.set_cons_succ, List.set_append_right _ _ (by rw [List.length_map]; omega), Frm.cs]
    simp [hl]
  rw [e] at this; exact this
theorem FrmOk.regV {f : Frm} (h : FrmOk f) (i : Int) : 0 ≤ regV f i ∧ regV f i ≤ 18446744073709551615 := by
  unfold Go.Proofs.YtobbmhboahognaaDoor.regV
  split
  · exact ⟨h.r0 _, h.r1 _⟩
  · omega
theorem FrmOk.val {f : Frm} (h : FrmOk f) {x : Inst} (h0 : 0 ≤ x.v) (h1 : x.v ≤ 18446744073709551615) : 0 ≤ valP f x ∧ valP f x ≤ 18446744073709551615 := by
  unfold valP
  split
  · exact ⟨h0, h1⟩
  · exact h.regV _
theorem FrmOk.setReg {f : Frm} (h : FrmOk f) (i : Nat) (y : Int) (h0 : 0 ≤ y) (h1 : y ≤ 18446744073709551615) (p : Int) : FrmOk ⟨p, f.r.set i y, f.back⟩ := by
  refine ⟨fun j => ?_, fun j => ?_, h.bl⟩
  all_goals
    show _ ≤ _
    simp only [List.getD, List.getElem?_set]
    have a0 := h.r0 j
    have a1 := h.r1 j
    simp only [List.getD] at a0 a1
    split
    · split
      · simp; omega
      · simp
    · omega

set_option maxHeartbeats 1000000 in
theorem register_any {w : World} {b : Nat} {N : List Nat} {f : Frm} {A : Option Addr} {cap : Nat} (h : FrameIn w b N f A cap) (i : Int) :
    Calls Tryd.prog 74 #[.pointer (some ⟨b, 0, none⟩), .int .i64 i] w fun e w' => e = .returned (.int .u64 (regV f i)) ∧ w = w' := by
  by_cases h0 : 0 ≤ i
  · by_cases h1 : i < 32
    · have hr : regV f i = f.r.getD i.toNat 0 := by simp [regV, regB, h0, h1]
      rw [hr]
      obtain ⟨k, rfl⟩ : ∃ k : Nat, i = k := ⟨i.toNat, by omega⟩
      have hk : k < 32 := by omega
      have c := h.reg k hk
      rw [show ((k : Int)).toNat = k by omega]
      generalize f.r.getD k 0 = y at c ⊢
      clear h hr h0 h1
      go_enter Tryd.func74, Tryd.ntmps74
      go_wp2
      go_ret
      exact ⟨rfl, rfl⟩
    · have hr : regV f i = 0 := by simp [regV, regB, h1]
      rw [hr]
      clear h hr
      go_enter Tryd.func74, Tryd.ntmps74
      go_wp2
      go_ret
      exact ⟨rfl, rfl⟩
  · have hr : regV f i = 0 := by simp [regV, regB, h0]
    rw [hr]
    clear h hr
    go_enter Tryd.func74, Tryd.ntmps74
    go_wp2
    go_ret
    exact ⟨rfl, rfl⟩

/-- What a call leaves that answers a word. -/
def WordPost (y : Int) (w : World) (e : Ending) (w' : World) : Prop := e = .returned (.int .u64 y) ∧ Below w.heap.size w w'

set_option maxHeartbeats 1000000 in
theorem value_any {w : World} {b : Nat} {N : List Nat} {f : Frm} {A : Option Addr} {cap : Nat} (h : FrameIn w b N f A cap) (op a' b' c v m wh : Int) :
    Calls Tryd.prog 73 #[.pointer (some ⟨b, 0, none⟩), .agg #[.int .i64 op, .int .i64 a', .int .i64 b', .int .i64 c, .int .u64 v, .int .i64 m, .int .i64 wh]] w (WordPost (valP f ⟨op, a', b', c, v, m, wh⟩) w) := by
  have FIN := Lib.hid (show Below w.heap.size w (w.alloc (.cells #[.int .i64 op, .int .i64 a', .int .i64 b', .int .i64 c, .int .u64 v, .int .i64 m, .int .i64 wh] 52)) from (Below.refl _ _).alloc (Nat.le_refl _) _)
  have RG := Lib.hid (register_any (h.below FIN.out) c)
  clear h
  by_cases hc : c = -1
  · rw [show valP f ⟨op, a', b', c, v, m, wh⟩ = v from if_pos hc]
    subst hc
    go_enter Tryd.func73, Tryd.ntmps73
    go_wp2
    go_ret
    exact ⟨rfl, FIN.out⟩
  · rw [show valP f ⟨op, a', b', c, v, m, wh⟩ = regV f c from if_neg hc]
    have hc' : (c == -1) = false := by simp [hc]
    generalize regV f c = y at RG ⊢
    clear hc
    go_enter Tryd.func73, Tryd.ntmps73
    go_wp2_with fail
    go_at_call 74
    refine RG.out.mono ?_
    rintro e w' ⟨rfl, rfl⟩
    go_wp2_with fail
    go_ret
    exact ⟨rfl, FIN.out⟩

theorem summ_wide (a b : Int) : summ 64 a b = (a + b) % 18446744073709551616 := by rfl

set_option maxHeartbeats 1000000 in
theorem address_any {w : World} {b : Nat} {N : List Nat} {f : Frm} {A : Option Addr} {cap : Nat} (h : FrameIn w b N f A cap) (ho : FrmOk f) (op a' b' c v m wh : Int) (v0 : 0 ≤ v) (v1 : v ≤ 18446744073709551615) :
    Calls Tryd.prog 72 #[.pointer (some ⟨b, 0, none⟩), .agg #[.int .i64 op, .int .i64 a', .int .i64 b', .int .i64 c, .int .u64 v, .int .i64 m, .int .i64 wh]] w (WordPost (addrP f ⟨op, a', b', c, v, m, wh⟩) w) := by
  have FIN := Lib.hid (show Below w.heap.size w (w.alloc (.cells #[.int .i64 op, .int .i64 a', .int .i64 b', .int .i64 c, .int .u64 v, .int .i64 m, .int .i64 wh] 52)) from (Below.refl _ _).alloc (Nat.le_refl _) _)
  have RG := Lib.hid (fun n => (register_any ((h.below FIN.out).drewN n) b').mono fun _ _ h => (⟨h.1, h.2.symm⟩ : _ ∧ _))
  obtain ⟨y0, y1⟩ := ho.regV b'
  have ha : addrP f ⟨op, a', b', c, v, m, wh⟩ = summ 64 (regV f b') v := by rw [summ_wide]; rfl
  rw [ha]
  generalize regV f b' = y at RG y0 y1 ⊢
  have SM := Lib.hid (fun W => (sum_any 64 y v y0 y1 v0 v1 W).mono fun _ _ h => (⟨h.1, h.2.symm⟩ : _ ∧ _))
  generalize summ 64 y v = z at SM ⊢
  clear h ho ha y0 y1 v0 v1
  go_enter Tryd.func72, Tryd.ntmps72
  go_wp2_with fail
  go_quiet ((first | (go_at_call 74; exact Calls.quiet_of_same (RG.out _)) | (go_at_call 76; exact Calls.quiet_of_same (SM.out _))))
  go_wp2_with fail
  go_ret
  exact ⟨rfl, ⟨FIN.out.os, FIN.out.tape, FIN.out.output, FIN.out.size, FIN.out.block⟩⟩
end Go.Proofs.YtobbmhboahognaaDoor
