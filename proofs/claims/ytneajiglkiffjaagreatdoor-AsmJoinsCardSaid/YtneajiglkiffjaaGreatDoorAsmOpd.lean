/- Contract of package asm's readOperand (layer 5): one operand is read, of whatever kind. The conditions: the reader's things lie there, the instruction in a block of its own; the word has at most 65536 bytes; fewer than a million names are wanted by now. -/
import Derived.Test.YtneajiglkiffjaaGreatDoorAsmStep
import Derived.Test.YtneajiglkiffjaaGreatDoorAsmMark
import Derived.Deep.RegionLaw
namespace Go.Proofs.YtneajiglkiffjaaGreatDoor
open Go.RowKit
set_option linter.unusedVariables false

def AsmS.use (s : AsmS) (n : Nat) (u : Option (List UInt8)) : AsmS := { s with uses := s.uses ++ u.toList.map fun u => (u, s.code.length, n) }
theorem AsmS.use_none (s : AsmS) (n : Nat) : s.use n none = s := by simp [AsmS.use]
/-- What readOperand leaves. -/
def OpdOut (r : Option (Inst × Option (List UInt8))) (rb mb n : Nat) (s : AsmS) (vc vl vu : Value) (xb : Nat) (w : World) (e : Ending) (w' : World) : Prop := match r with
  | none => (∃ t v, e = .returned (.iface t v)) ∧ Only (xb :: foot rb mb vc vl vu) w w'
  | some (y, u) => e = .returned .nilIface ∧ ∃ vu', Rd w' rb mb n (s.use n u) vc vl vu' ∧ Row w' xb y.cs ∧ Only (xb :: foot rb mb vc vl vu) w w' ∧ (vu'.ownBlock = vu.ownBlock ∨ ∃ k, vu'.ownBlock = some k ∧ w.heap.size ≤ k)
section
variable {rb mb n : Nat} {s : AsmS} {vc vl vu : Value} {xb : Nat} {w : World} {e : Ending} {w' : World}
theorem OpdOut.value {r : Option (Inst × Option (List UInt8))} (h : OpdOut r rb mb n s vc vl vu xb w e w') : ∃ v, e = .returned v := by
  unfold OpdOut at h
  cases r with
  | none => obtain ⟨⟨t, v, h⟩, _⟩ := h; exact ⟨_, h⟩
  | some p => exact ⟨_, h.1⟩
theorem opd_of_rout {r : Option Inst} (h : ROut (r.map Inst.cs) xb w e w') (hR : Rd w rb mb n s vc vl vu) (hx : xb ∉ foot rb mb vc vl vu) : OpdOut (r.map fun y => (y, none)) rb mb n s vc vl vu xb w e w' := by
  cases r with
  | none => exact ⟨h.1, h.2.mono (by simp)⟩
  | some y => exact ⟨h.1, vu, by rw [AsmS.use_none]; exact hR.only h.2.2 (fun k hk hm => hx (by simp at hm; rw [← hm]; exact hk)), h.2.1, h.2.2.mono (by simp), .inl rfl⟩
end
/-- The conditions. -/
structure OpdIn (l : List UInt8) (rb mb n : Nat) (s : AsmS) (vc vl vu : Value) (xb : Nat) (x : Inst) (w : World) : Prop where
  hl : l.length ≤ 65536
  hx : xb ∉ foot rb mb vc vl vu
  hR : Rd w rb mb n s vc vl vu
  hX : Row w xb x.cs
  hU : s.uses.length < 1000000
set_option maxHeartbeats 2000000 in
set_option maxRecDepth 100000 in
theorem opd0 (l : List UInt8) (rb mb n : Nat) (s : AsmS) (vc vl vu : Value) (xb : Nat) (x : Inst) (w : World) (h : OpdIn l rb mb n s vc vl vu xb x w) :
    Calls Tryz.prog 77 #[.pointer (some ⟨rb, 0, none⟩), .pointer (some ⟨xb, 0, none⟩), .int .i64 0, .string (bytesA l)] w (OpdOut (opdP 0 l x) rb mb n s vc vl vu xb w) := by
  have C := Lib.hid (readReg_any l xb 1 x.cs (by simp [Inst.cs]) w h.hX)
  have FIN := Lib.hid (fun e w' (g : ROut ((regP l).map fun n : Nat => x.cs.set 1 (.int .i64 (n : Int))) xb w e w') => show OpdOut (opdP 0 l x) rb mb n s vc vl vu xb w e w' from by
    have := opd_of_rout (r := (regP l).map fun n : Nat => { x with a := n }) (by rw [Option.map_map]; exact g) h.hR h.hx
    rw [Option.map_map] at this
    exact this)
  obtain ⟨t, ht⟩ : ∃ t, t = bytesA l := ⟨_, rfl⟩
  rw [← ht] at C ⊢
  clear ht h
  go_enter Tryz.func77, Tryz.ntmps77
  go_wp2_with fail
  go_at_call 93
  refine C.out.mono ?_
  intro e w' hro
  obtain ⟨v, rfl⟩ := hro.value
  have HO := Lib.hid hro
  clear hro
  go_wp2_with fail
  go_ret
  exact FIN.out _ _ HO.out
set_option maxHeartbeats 2000000 in
set_option maxRecDepth 100000 in
theorem opd1 (l : List UInt8) (rb mb n : Nat) (s : AsmS) (vc vl vu : Value) (xb : Nat) (x : Inst) (w : World) (h : OpdIn l rb mb n s vc vl vu xb x w) :
    Calls Tryz.prog 77 #[.pointer (some ⟨rb, 0, none⟩), .pointer (some ⟨xb, 0, none⟩), .int .i64 1, .string (bytesA l)] w (OpdOut (opdP 1 l x) rb mb n s vc vl vu xb w) := by
  have C := Lib.hid (readReg_any l xb 2 x.cs (by simp [Inst.cs]) w h.hX)
  have FIN := Lib.hid (fun e w' (g : ROut ((regP l).map fun n : Nat => x.cs.set 2 (.int .i64 (n : Int))) xb w e w') => show OpdOut (opdP 1 l x) rb mb n s vc vl vu xb w e w' from by
    have := opd_of_rout (r := (regP l).map fun n : Nat => { x with b := n }) (by rw [Option.map_map]; exact g) h.hR h.hx
    rw [Option.map_map] at this
    exact this)
  obtain ⟨t, ht⟩ : ∃ t, t = bytesA l := ⟨_, rfl⟩
  rw [← ht] at C ⊢
  clear ht h
  go_enter Tryz.func77, Tryz.ntmps77
  go_wp2_with fail
  go_at_call 93
  refine C.out.mono ?_
  intro e w' hro
  obtain ⟨v, rfl⟩ := hro.value
  have HO := Lib.hid hro
  clear hro
  go_wp2_with fail
  go_ret
  exact FIN.out _ _ HO.out
set_option maxHeartbeats 2000000 in
set_option maxRecDepth 100000 in
theorem opd2 (l : List UInt8) (rb mb n : Nat) (s : AsmS) (vc vl vu : Value) (xb : Nat) (x : Inst) (w : World) (h : OpdIn l rb mb n s vc vl vu xb x w) :
    Calls Tryz.prog 77 #[.pointer (some ⟨rb, 0, none⟩), .pointer (some ⟨xb, 0, none⟩), .int .i64 2, .string (bytesA l)] w (OpdOut (opdP 2 l x) rb mb n s vc vl vu xb w) := by
  have C := Lib.hid (readReg_any l xb 3 x.cs (by simp [Inst.cs]) w h.hX)
  have FIN := Lib.hid (fun e w' (g : ROut ((regP l).map fun n : Nat => x.cs.set 3 (.int .i64 (n : Int))) xb w e w') => show OpdOut (opdP 2 l x) rb mb n s vc vl vu xb w e w' from by
    have := opd_of_rout (r := (regP l).map fun n : Nat => { x with c := n }) (by rw [Option.map_map]; exact g) h.hR h.hx
    rw [Option.map_map] at this
    exact this)
  obtain ⟨t, ht⟩ : ∃ t, t = bytesA l := ⟨_, rfl⟩
  rw [← ht] at C ⊢
  clear ht h
  go_enter Tryz.func77, Tryz.ntmps77
  go_wp2_with fail
  go_at_call 93
  refine C.out.mono ?_
  intro e w' hro
  obtain ⟨v, rfl⟩ := hro.value
  have HO := Lib.hid hro
  clear hro
  go_wp2_with fail
  go_ret
  exact FIN.out _ _ HO.out
set_option maxHeartbeats 2000000 in
set_option maxRecDepth 100000 in
theorem opd3 (l : List UInt8) (rb mb n : Nat) (s : AsmS) (vc vl vu : Value) (xb : Nat) (x : Inst) (w : World) (h : OpdIn l rb mb n s vc vl vu xb x w) :
    Calls Tryz.prog 77 #[.pointer (some ⟨rb, 0, none⟩), .pointer (some ⟨xb, 0, none⟩), .int .i64 3, .string (bytesA l)] w (OpdOut (opdP 3 l x) rb mb n s vc vl vu xb w) := by
  have C := Lib.hid (readEither_any l xb 2 4 x.cs (by simp [Inst.cs]) (by simp [Inst.cs]) w.drew h.hX.drew)
  have FIN := Lib.hid (fun e w' (g : ROut (eitherR x.cs 2 4 l) xb w.drew e w') => show OpdOut (opdP 3 l x) rb mb n s vc vl vu xb w e w' from by
    rw [eitherB_cs] at g
    exact opd_of_rout (g.from (Only.refl _ _).drew) h.hR h.hx)
  obtain ⟨R, hR⟩ : ∃ R, R = eitherR x.cs 2 4 l := ⟨_, rfl⟩
  rw [← hR] at C FIN
  obtain ⟨t, ht⟩ : ∃ t, t = bytesA l := ⟨_, rfl⟩
  rw [← ht] at C ⊢
  clear ht h hR
  go_enter Tryz.func77, Tryz.ntmps77
  go_wp2_with fail
  go_region_with (go_at_call 94; refine C.out.mono ?_; intro e w' hro; obtain ⟨v, rfl⟩ := hro.value; have HO := Lib.hid hro; clear hro)
  all_goals
    go_wp2_with fail
    go_ret
    exact FIN.out _ _ HO.out
set_option maxHeartbeats 2000000 in
set_option maxRecDepth 100000 in
theorem opd4 (l : List UInt8) (rb mb n : Nat) (s : AsmS) (vc vl vu : Value) (xb : Nat) (x : Inst) (w : World) (h : OpdIn l rb mb n s vc vl vu xb x w) :
    Calls Tryz.prog 77 #[.pointer (some ⟨rb, 0, none⟩), .pointer (some ⟨xb, 0, none⟩), .int .i64 4, .string (bytesA l)] w (OpdOut (opdP 4 l x) rb mb n s vc vl vu xb w) := by
  have C := Lib.hid (readEither_any l xb 3 4 x.cs (by simp [Inst.cs]) (by simp [Inst.cs]) w.drew h.hX.drew)
  have FIN := Lib.hid (fun e w' (g : ROut (eitherR x.cs 3 4 l) xb w.drew e w') => show OpdOut (opdP 4 l x) rb mb n s vc vl vu xb w e w' from by
    rw [eitherC_cs] at g
    exact opd_of_rout (g.from (Only.refl _ _).drew) h.hR h.hx)
  obtain ⟨R, hR⟩ : ∃ R, R = eitherR x.cs 3 4 l := ⟨_, rfl⟩
  rw [← hR] at C FIN
  obtain ⟨t, ht⟩ : ∃ t, t = bytesA l := ⟨_, rfl⟩
  rw [← ht] at C ⊢
  clear ht h hR
  go_enter Tryz.func77, Tryz.ntmps77
  go_wp2_with fail
  go_region_with (go_at_call 94; refine C.out.mono ?_; intro e w' hro; obtain ⟨v, rfl⟩ := hro.value; have HO := Lib.hid hro; clear hro)
  all_goals
    go_wp2_with fail
    go_ret
    exact FIN.out _ _ HO.out
set_option maxHeartbeats 2000000 in
set_option maxRecDepth 100000 in
theorem opd5 (l : List UInt8) (rb mb n : Nat) (s : AsmS) (vc vl vu : Value) (xb : Nat) (x : Inst) (w : World) (h : OpdIn l rb mb n s vc vl vu xb x w) :
    Calls Tryz.prog 77 #[.pointer (some ⟨rb, 0, none⟩), .pointer (some ⟨xb, 0, none⟩), .int .i64 5, .string (bytesA l)] w (OpdOut (opdP 5 l x) rb mb n s vc vl vu xb w) := by
  have C := Lib.hid (readCell_any l h.hl xb x w h.hX)
  have FIN := Lib.hid (fun e w' (g : ROut ((cellP x l).map Inst.cs) xb w e w') => show OpdOut (opdP 5 l x) rb mb n s vc vl vu xb w e w' from opd_of_rout g h.hR h.hx)
  obtain ⟨R, hR⟩ : ∃ R, R = (cellP x l).map Inst.cs := ⟨_, rfl⟩
  rw [← hR] at C FIN
  obtain ⟨t, ht⟩ : ∃ t, t = bytesA l := ⟨_, rfl⟩
  rw [← ht] at C ⊢
  clear ht h hR
  go_enter Tryz.func77, Tryz.ntmps77
  go_wp2_with fail
  go_at_call 95
  refine C.out.mono ?_
  intro e w' hro
  obtain ⟨v, rfl⟩ := hro.value
  have HO := Lib.hid hro
  clear hro
  go_wp2_with fail
  go_ret
  exact FIN.out _ _ HO.out
set_option maxHeartbeats 2000000 in
set_option maxRecDepth 100000 in
theorem opd8 (l : List UInt8) (rb mb n : Nat) (s : AsmS) (vc vl vu : Value) (xb : Nat) (x : Inst) (w : World) (h : OpdIn l rb mb n s vc vl vu xb x w) :
    Calls Tryz.prog 77 #[.pointer (some ⟨rb, 0, none⟩), .pointer (some ⟨xb, 0, none⟩), .int .i64 8, .string (bytesA l)] w (OpdOut (opdP 8 l x) rb mb n s vc vl vu xb w) := by
  have C := Lib.hid (readNum_any l xb 4 x.cs (by simp [Inst.cs]) w h.hX)
  have FIN := Lib.hid (fun e w' (g : ROut ((numP l).map fun n : Nat => x.cs.set 4 (.int .u64 (n : Int))) xb w e w') => show OpdOut (opdP 8 l x) rb mb n s vc vl vu xb w e w' from by
    have := opd_of_rout (r := (numP l).map fun n : Nat => { x with v := n }) (by rw [Option.map_map]; exact g) h.hR h.hx
    rw [Option.map_map] at this
    exact this)
  obtain ⟨R, hR⟩ : ∃ R, R = ((numP l).map fun n : Nat => x.cs.set 4 (.int .u64 (n : Int))) := ⟨_, rfl⟩
  rw [← hR] at C FIN
  obtain ⟨t, ht⟩ : ∃ t, t = bytesA l := ⟨_, rfl⟩
  rw [← ht] at C ⊢
  clear ht h hR
  go_enter Tryz.func77, Tryz.ntmps77
  go_wp2_with fail
  go_at_call 96
  refine C.out.mono ?_
  intro e w' hro
  obtain ⟨v, rfl⟩ := hro.value
  have HO := Lib.hid hro
  clear hro
  go_wp2_with fail
  go_ret
  exact FIN.out _ _ HO.out
set_option maxHeartbeats 2000000 in
set_option maxRecDepth 100000 in
theorem opd6_no (l : List UInt8) (rb mb n : Nat) (s : AsmS) (vc vl vu : Value) (xb : Nat) (x : Inst) (w : World) (h : OpdIn l rb mb n s vc vl vu xb x w) (hn : nameB l = false) :
    Calls Tryz.prog 77 #[.pointer (some ⟨rb, 0, none⟩), .pointer (some ⟨xb, 0, none⟩), .int .i64 6, .string (bytesA l)] w (OpdOut (opdP 6 l x) rb mb n s vc vl vu xb w) := by
  have IN := Lib.hid (fun W => isName_l l h.hl W)
  rw [hn] at IN
  have FIN := Lib.hid (fun t v w' (hb : Below w.heap.size w w') => show OpdOut (opdP 6 l x) rb mb n s vc vl vu xb w (.returned (.iface t v)) w' from by
    rw [show opdP 6 l x = none from by simp [opdP, hn]]
    exact ⟨⟨_, _, rfl⟩, Only.of_below hb⟩)
  obtain ⟨t, ht⟩ : ∃ t, t = bytesA l := ⟨_, rfl⟩
  rw [← ht] at IN ⊢
  clear ht h hn
  go_enter Tryz.func77, Tryz.ntmps77
  go_wp2_with fail
  go_at_call 74
  refine (IN.out _).mono ?_
  rintro e w1 ⟨rfl, hb1⟩
  have HB1 := Lib.hid hb1
  clear hb1
  go_wp2_with fail
  go_ret
  exact FIN.out _ _ _ HB1.out
set_option maxHeartbeats 2000000 in
set_option maxRecDepth 100000 in
theorem opd7_no (l : List UInt8) (rb mb n : Nat) (s : AsmS) (vc vl vu : Value) (xb : Nat) (x : Inst) (w : World) (h : OpdIn l rb mb n s vc vl vu xb x w) (hn : nameB l = false) :
    Calls Tryz.prog 77 #[.pointer (some ⟨rb, 0, none⟩), .pointer (some ⟨xb, 0, none⟩), .int .i64 7, .string (bytesA l)] w (OpdOut (opdP 7 l x) rb mb n s vc vl vu xb w) := by
  have IN := Lib.hid (fun W => isName_l l h.hl W)
  rw [hn] at IN
  have NU := Lib.hid (fun w1 (hb : Below w.heap.size w w1) => readNum_any l xb 4 x.cs (by simp [Inst.cs]) w1 (h.hX.below hb h.hX.lt))
  have FIN := Lib.hid (fun w1 (hb : Below w.heap.size w w1) e w' (g : ROut ((numP l).map fun n : Nat => x.cs.set 4 (.int .u64 (n : Int))) xb w1 e w') => show OpdOut (opdP 7 l x) rb mb n s vc vl vu xb w e w' from by
    have := opd_of_rout (r := (numP l).map fun n : Nat => { x with v := n }) (by rw [Option.map_map]; exact g.from (Only.of_below hb)) h.hR h.hx
    rw [Option.map_map] at this
    rw [show opdP 7 l x = (numP l).map fun v : Nat => ({ x with v := v }, none) from by simp [opdP, hn]]
    exact this)
  obtain ⟨R, hR⟩ : ∃ R, R = ((numP l).map fun n : Nat => x.cs.set 4 (.int .u64 (n : Int))) := ⟨_, rfl⟩
  rw [← hR] at NU FIN
  obtain ⟨t, ht⟩ : ∃ t, t = bytesA l := ⟨_, rfl⟩
  rw [← ht] at IN NU ⊢
  clear ht h hn hR
  go_enter Tryz.func77, Tryz.ntmps77
  go_wp2_with fail
  go_at_call 74
  refine (IN.out _).mono ?_
  rintro e w1 ⟨rfl, hb1⟩
  have HB1 := Lib.hid hb1
  clear hb1
  go_wp2_with fail
  go_at_call 96
  refine (NU.out _ HB1.out).mono ?_
  intro e w' hro
  obtain ⟨v, rfl⟩ := hro.value
  have HO := Lib.hid hro
  clear hro
  go_wp2_with fail
  go_ret
  exact FIN.out _ HB1.out _ _ HO.out
set_option maxHeartbeats 2000000 in
set_option maxRecDepth 100000 in
theorem opd6_yes (l : List UInt8) (rb mb n : Nat) (s : AsmS) (vc vl vu : Value) (xb : Nat) (x : Inst) (w : World) (h : OpdIn l rb mb n s vc vl vu xb x w) (hn : nameB l = true) :
    Calls Tryz.prog 77 #[.pointer (some ⟨rb, 0, none⟩), .pointer (some ⟨xb, 0, none⟩), .int .i64 6, .string (bytesA l)] w (OpdOut (opdP 6 l x) rb mb n s vc vl vu xb w) := by
  have IN := Lib.hid (fun W => isName_l l h.hl W)
  rw [hn] at IN
  obtain ⟨A, cap, rfl⟩ := own_form h.hR.c
  have HIN := Lib.hid h
  have FIN := Lib.hid (fun w2 W3 v' (hb : Below w.heap.size w w2) (hR2 : Rd w2 rb mb n s (.slice A s.code.length cap) vl vu) (hp : Pushed w2 W3 vu v') (ho : W3.ownsRow 0 119 3 v' (s.uses.length + 1) (flatUse s.uses ++ [.string (bytesA l), .int .i64 (s.code.length : Int), .int .i64 (n : Int)])) =>
    show OpdOut (opdP 6 l x) rb mb n s (.slice A s.code.length cap) vl vu xb w (.returned .nilIface) (W3.setCell ⟨rb, 4, none⟩ v') from by
      rw [show opdP 6 l x = some (x, some l) from by simp [opdP, hn]]
      obtain ⟨_, h1, h2⟩ := hR2.pushU hp (l, s.code.length, n) ho
      have h3 := (Only.of_below (F := foot rb mb (.slice A s.code.length cap) vl vu) hb).trans h2
      refine ⟨rfl, v', h1, h.hX.only h3 h.hx, h3.mono (by simp; intro a ha; simp [ha]), ?_⟩
      rcases hp.loc with hq | ⟨k, hk, hs⟩
      · exact .inl hq
      · exact .inr ⟨k, hk, Nat.le_trans hb.size hs⟩)
  obtain ⟨t, ht⟩ : ∃ t, t = bytesA l := ⟨_, rfl⟩
  rw [← ht] at IN FIN ⊢
  clear ht h hn
  have hU := HIN.out.hU
  go_enter Tryz.func77, Tryz.ntmps77
  go_wp2_with fail
  go_at_call 74
  refine (IN.out _).mono ?_
  rintro e w1 ⟨rfl, hb1⟩
  have HB1 := Lib.hid hb1
  clear hb1
  go_wp2_with fail
  go_at_call 74
  refine (IN.out _).mono ?_
  rintro e w2 ⟨rfl, hb2⟩
  have HB := Lib.hid (show Below w.heap.size w w2 from HB1.out.trans (hb2.mono HB1.out.size))
  clear hb2
  have R2 := HIN.out.hR.only (Only.of_below HB.out) (F := []) (by simp)
  obtain ⟨c0, c1, c2, c3, c4⟩ := R2.cells
  obtain ⟨v', W3, hr, ho, hg, hloc, hsz⟩ := push_any (t := 75) (e := 119) Tryz.underlying75 info_Use rfl (by decide) (by decide) (X := (w2.alloc (.cells #[.string t, .int .i64 (s.code.length : Int), .int .i64 (n : Int)] 119)).drew)
    (R2.alloc (.cells #[.string t, .int .i64 (s.code.length : Int), .int .i64 (n : Int)] 119)).u.drew hU w2.heap.size
    [.string t, .int .i64 (s.code.length : Int), .int .i64 (n : Int)] rfl (fun j u hu => by show (w2.alloc _).cell? _ = _; rw [World.cell?_alloc_at _ _ _ _ rfl]; simpa using hu) (by intro u hu; simp at hu; rcases hu with rfl | rfl | rfl <;> rfl) 75
  obtain ⟨A', cap', rfl⟩ := own_form ho
  obtain ⟨_, _, _, _, k4⟩ := (R2.alloc (.cells #[.string t, .int .i64 (s.code.length : Int), .int .i64 (n : Int)] 119)).cells
  have PU := Lib.hid (pushed hg hloc)
  have FINW := Lib.hid (FIN.out w2 W3 _ HB.out R2 PU.out ho)
  have hrb : W3.heap[rb]? = _ := (PU.out.keep rb (R2.lt rb (by simp [foot])) (fun e => (R2.uApart rb e).1 rfl)).trans R2.r
  have d4 : W3.cell? ⟨rb, 4, none⟩ = some vu := by rw [cell_of_row W3 rb 4 _ _ (0, 0) hrb]; rfl
  have g4 : W3.frozen? ⟨rb, 4, none⟩ = false := by simp [World.frozen?, hrb]
  have HRUN := Lib.hid hr
  clear hr ho hg hloc hsz hrb R2
  go_wp2_with fail
  go_region_law (refine step_call rfl (.tmp 72) (.tmp 84) 75 75 rfl vu _ (by simp [Act.eval]) (by simp [Act.eval]) HRUN.out ?_)
  all_goals
    go_wp2_with fail
    go_ret
    exact FINW.out
set_option maxHeartbeats 2000000 in
set_option maxRecDepth 100000 in
theorem opd7_yes (l : List UInt8) (rb mb n : Nat) (s : AsmS) (vc vl vu : Value) (xb : Nat) (x : Inst) (w : World) (h : OpdIn l rb mb n s vc vl vu xb x w) (hn : nameB l = true) :
    Calls Tryz.prog 77 #[.pointer (some ⟨rb, 0, none⟩), .pointer (some ⟨xb, 0, none⟩), .int .i64 7, .string (bytesA l)] w (OpdOut (opdP 7 l x) rb mb n s vc vl vu xb w) := by
  have IN := Lib.hid (fun W => isName_l l h.hl W)
  rw [hn] at IN
  obtain ⟨A, cap, rfl⟩ := own_form h.hR.c
  have HIN := Lib.hid h
  have FIN := Lib.hid (fun w2 W3 v' (hb : Below w.heap.size w w2) (hR2 : Rd w2 rb mb n s (.slice A s.code.length cap) vl vu) (hp : Pushed w2 W3 vu v') (ho : W3.ownsRow 0 119 3 v' (s.uses.length + 1) (flatUse s.uses ++ [.string (bytesA l), .int .i64 (s.code.length : Int), .int .i64 (n : Int)])) =>
    show OpdOut (opdP 7 l x) rb mb n s (.slice A s.code.length cap) vl vu xb w (.returned .nilIface) (W3.setCell ⟨rb, 4, none⟩ v') from by
      rw [show opdP 7 l x = some (x, some l) from by simp [opdP, hn]]
      obtain ⟨_, h1, h2⟩ := hR2.pushU hp (l, s.code.length, n) ho
      have h3 := (Only.of_below (F := foot rb mb (.slice A s.code.length cap) vl vu) hb).trans h2
      refine ⟨rfl, v', h1, h.hX.only h3 h.hx, h3.mono (by simp; intro a ha; simp [ha]), ?_⟩
      rcases hp.loc with hq | ⟨k, hk, hs⟩
      · exact .inl hq
      · exact .inr ⟨k, hk, Nat.le_trans hb.size hs⟩)
  obtain ⟨t, ht⟩ : ∃ t, t = bytesA l := ⟨_, rfl⟩
  rw [← ht] at IN FIN ⊢
  clear ht h hn
  have hU := HIN.out.hU
  go_enter Tryz.func77, Tryz.ntmps77
  go_wp2_with fail
  go_at_call 74
  refine (IN.out _).mono ?_
  rintro e w1 ⟨rfl, hb1⟩
  have HB1 := Lib.hid hb1
  clear hb1
  obtain ⟨w2, rfl⟩ : ∃ w2, w2 = w1 := ⟨_, rfl⟩
  have HB := HB1
  have R2 := HIN.out.hR.only (Only.of_below HB.out) (F := []) (by simp)
  obtain ⟨c0, c1, c2, c3, c4⟩ := R2.cells
  obtain ⟨v', W3, hr, ho, hg, hloc, hsz⟩ := push_any (t := 75) (e := 119) Tryz.underlying75 info_Use rfl (by decide) (by decide) (X := (w2.alloc (.cells #[.string t, .int .i64 (s.code.length : Int), .int .i64 (n : Int)] 119)).drew)
    (R2.alloc (.cells #[.string t, .int .i64 (s.code.length : Int), .int .i64 (n : Int)] 119)).u.drew hU w2.heap.size
    [.string t, .int .i64 (s.code.length : Int), .int .i64 (n : Int)] rfl (fun j u hu => by show (w2.alloc _).cell? _ = _; rw [World.cell?_alloc_at _ _ _ _ rfl]; simpa using hu) (by intro u hu; simp at hu; rcases hu with rfl | rfl | rfl <;> rfl) 75
  obtain ⟨A', cap', rfl⟩ := own_form ho
  obtain ⟨_, _, _, _, k4⟩ := (R2.alloc (.cells #[.string t, .int .i64 (s.code.length : Int), .int .i64 (n : Int)] 119)).cells
  have PU := Lib.hid (pushed hg hloc)
  have FINW := Lib.hid (FIN.out w2 W3 _ HB.out R2 PU.out ho)
  have hrb : W3.heap[rb]? = _ := (PU.out.keep rb (R2.lt rb (by simp [foot])) (fun e => (R2.uApart rb e).1 rfl)).trans R2.r
  have d4 : W3.cell? ⟨rb, 4, none⟩ = some vu := by rw [cell_of_row W3 rb 4 _ _ (0, 0) hrb]; rfl
  have g4 : W3.frozen? ⟨rb, 4, none⟩ = false := by simp [World.frozen?, hrb]
  have HRUN := Lib.hid hr
  clear hr ho hg hloc hsz hrb R2
  go_wp2_with fail
  go_region_law (refine step_call rfl (.tmp 72) (.tmp 84) 75 75 rfl vu _ (by simp [Act.eval]) (by simp [Act.eval]) HRUN.out ?_)
  all_goals
    go_wp2_with fail
    go_ret
    exact FINW.out
/-- One operand, of whatever kind. -/
theorem readOpd_any (k : Nat) (hk : k ≤ 8) (l : List UInt8) (rb mb n : Nat) (s : AsmS) (vc vl vu : Value) (xb : Nat) (x : Inst) (w : World) (h : OpdIn l rb mb n s vc vl vu xb x w) :
    Calls Tryz.prog 77 #[.pointer (some ⟨rb, 0, none⟩), .pointer (some ⟨xb, 0, none⟩), .int .i64 (k : Int), .string (bytesA l)] w (OpdOut (opdP k l x) rb mb n s vc vl vu xb w) := by
  match k, hk with
  | 0, _ => exact opd0 l rb mb n s vc vl vu xb x w h
  | 1, _ => exact opd1 l rb mb n s vc vl vu xb x w h
  | 2, _ => exact opd2 l rb mb n s vc vl vu xb x w h
  | 3, _ => exact opd3 l rb mb n s vc vl vu xb x w h
  | 4, _ => exact opd4 l rb mb n s vc vl vu xb x w h
  | 5, _ => exact opd5 l rb mb n s vc vl vu xb x w h
  | 6, _ =>
    cases hn : nameB l with
    | true => exact opd6_yes l rb mb n s vc vl vu xb x w h hn
    | false => exact opd6_no l rb mb n s vc vl vu xb x w h hn
  | 7, _ =>
    cases hn : nameB l with
    | true => exact opd7_yes l rb mb n s vc vl vu xb x w h hn
    | false => exact opd7_no l rb mb n s vc vl vu xb x w h hn
  | 8, _ => exact opd8 l rb mb n s vc vl vu xb x w h
end Go.Proofs.YtneajiglkiffjaaGreatDoor
