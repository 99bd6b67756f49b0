/- Contracts of package asm's readRegister, readNumber, readEither (layer 5): what is read into a row's fields. The condition: the row lies there and may be written. -/
import Derived.Test.YtneajiglkiffjaaGreatDoorAsmName
namespace Go.Proofs.YtneajiglkiffjaaGreatDoor
open Go.RowKit
set_option linter.unusedVariables false

/-- What a call leaves that reads into block b: nothing wrong and the row; or an error. -/
def ROut (r : Option (List Value)) (b : Nat) (w : World) (e : Ending) (w' : World) : Prop := match r with
  | some vs => e = .returned .nilIface ∧ Row w' b vs ∧ Only [b] w w'
  | none => (∃ t v, e = .returned (.iface t v)) ∧ Only [b] w w'
theorem only_of_below {F : List Nat} {w w' : World} (h : Below w.heap.size w w') : Only F w w' := Only.of_below h
theorem row_set_only {w w1 : World} {b : Nat} {vs : List Value} (h : Row w b vs) (hb : Below w.heap.size w w1) (o : Nat) (ho : o < vs.length) (u : Value) : Row (w1.setCell ⟨b, o, none⟩ u) b (vs.set o u) ∧ Only [b] w (w1.setCell ⟨b, o, none⟩ u) :=
  ⟨(h.below hb h.lt).set o ho u, (Only.of_below hb).setCell (.inl (by simp)) u⟩
theorem row_there {w : World} {b : Nat} {vs : List Value} (h : Row w b vs) (o : Nat) (ho : o < vs.length) : (∃ u, w.cell? ⟨b, o, none⟩ = some u) ∧ w.frozen? ⟨b, o, none⟩ = false := ⟨⟨_, h.cell o ho⟩, h.free o ho⟩
set_option maxHeartbeats 1000000 in
theorem readReg_any (l : List UInt8) (b o : Nat) (vs : List Value) (ho : o < vs.length) (w : World) (h : Row w b vs) : Calls Tryz.prog 93 #[.pointer (some ⟨b, o, none⟩), .string (bytesA l)] w
    (ROut ((regP l).map fun n : Nat => vs.set o (.int .i64 (n : Int))) b w) := by
  have RG := Lib.hid (fun W => regOf_any l W)
  obtain ⟨s, hs⟩ : ∃ s, s = bytesA l := ⟨_, rfl⟩
  rw [← hs] at RG ⊢
  clear hs
  have H := Lib.hid h
  clear h
  cases hr : regP l with
  | none =>
    rw [hr] at RG
    have FIN := Lib.hid (fun w1 (hb : Below w.heap.size w w1) => show ROut (Option.map (fun n : Nat => vs.set o (.int .i64 (n : Int))) none) b w (.returned (.iface 49 (.int .i64 6))) w1 from ⟨⟨_, _, rfl⟩, Only.of_below hb⟩)
    clear hr
    go_enter Tryz.func93, Tryz.ntmps93
    go_wp2_with fail
    go_at_call 91
    refine (RG.out _).mono ?_
    rintro e w1 ⟨rfl, hb⟩
    have HB := Lib.hid hb
    clear hb
    go_wp2_with fail
    go_ret
    exact FIN.out _ HB.out
  | some n =>
    rw [hr] at RG
    have FIN := Lib.hid (fun w1 (hb : Below w.heap.size w w1) => show ROut (Option.map (fun n : Nat => vs.set o (.int .i64 (n : Int))) (some n)) b w (.returned .nilIface) (w1.setCell ⟨b, o, none⟩ (.int .i64 (n : Int))) from ⟨rfl, row_set_only H.out hb o ho _⟩)
    clear hr
    go_enter Tryz.func93, Tryz.ntmps93
    go_wp2_with fail
    go_at_call 91
    refine (RG.out _).mono ?_
    rintro e w1 ⟨rfl, hb⟩
    obtain ⟨⟨u, hc⟩, hf⟩ := row_there (H.out.below hb H.out.lt) o ho
    have HB := Lib.hid hb
    clear hb
    go_wp2_with fail
    go_ret
    exact FIN.out _ HB.out
set_option maxHeartbeats 1000000 in
theorem readNum_any (l : List UInt8) (b o : Nat) (vs : List Value) (ho : o < vs.length) (w : World) (h : Row w b vs) : Calls Tryz.prog 96 #[.pointer (some ⟨b, o, none⟩), .string (bytesA l)] w
    (ROut ((numP l).map fun n : Nat => vs.set o (.int .u64 (n : Int))) b w) := by
  unfold numP
  have H := Lib.hid h
  clear h
  cases hr : readAll l with
  | bad n =>
    have PB := Lib.hid (fun W => parse_bad l n hr W)
    have FIN := Lib.hid (fun ob => show ROut (Option.map (fun n : Nat => vs.set o (.int .u64 (n : Int))) none) b w (.returned (.iface 69 (.pointer (some ⟨w.heap.size, 0, none⟩)))) ((w.alloc ob).setCell ⟨b, o, none⟩ (.int .u64 0)) from
      ⟨⟨_, _, rfl⟩, (row_set_only H.out ((Below.refl _ _).alloc (Nat.le_refl _) _) o ho _).2⟩)
    clear hr
    obtain ⟨s, hs⟩ : ∃ s, s = bytesA l := ⟨_, rfl⟩
    rw [← hs] at PB ⊢
    clear hs
    go_enter Tryz.func96, Tryz.ntmps96
    go_wp2_with fail
    go_at_call 98
    refine (PB.out _).mono ?_
    rintro e w1 ⟨ob, rfl, rfl⟩
    obtain ⟨⟨u, hc⟩, hf⟩ := row_there (H.out.below ((Below.refl w.heap.size w).alloc (Nat.le_refl _) ob) H.out.lt) o ho
    go_wp2_with fail
    go_ret
    exact FIN.out _
  | ok v =>
    have PO := Lib.hid (fun W => parse_ok l v hr W)
    have FIN := Lib.hid (show ROut (Option.map (fun n : Nat => vs.set o (.int .u64 (n : Int))) (some v)) b w (.returned .nilIface) (w.setCell ⟨b, o, none⟩ (.int .u64 (v : Int))) from ⟨rfl, row_set_only H.out (Below.refl _ _) o ho _⟩)
    clear hr
    obtain ⟨s, hs⟩ : ∃ s, s = bytesA l := ⟨_, rfl⟩
    rw [← hs] at PO ⊢
    clear hs
    obtain ⟨⟨u, hc⟩, hf⟩ := row_there H.out o ho
    go_enter Tryz.func96, Tryz.ntmps96
    go_wp2_with fail
    go_at_call 98
    refine (PO.out _).mono ?_
    rintro e w1 ⟨rfl, rfl⟩
    go_wp2_with fail
    go_ret
    exact FIN.out
def eitherR (vs : List Value) (o1 o2 : Nat) (l : List UInt8) : Option (List Value) := match regP l with
  | some n => some (vs.set o1 (.int .i64 (n : Int)))
  | none => (numP l).map fun n : Nat => (vs.set o1 (.int .i64 (-1))).set o2 (.int .u64 (n : Int))
theorem ROut.from {r : Option (List Value)} {b : Nat} {w w1 : World} {e : Ending} {w' : World} (h : ROut r b w1 e w') (ho : Only [b] w w1) : ROut r b w e w' := by
  unfold ROut at h ⊢
  cases r with
  | none => exact ⟨h.1, ho.trans h.2⟩
  | some vs => exact ⟨h.1, h.2.1, ho.trans h.2.2⟩
theorem ROut.value {r : Option (List Value)} {b : Nat} {w : World} {e : Ending} {w' : World} (h : ROut r b w e w') : ∃ v, e = .returned v := by
  unfold ROut at h
  cases r with
  | none => obtain ⟨⟨t, v, h⟩, _⟩ := h; exact ⟨_, h⟩
  | some vs => exact ⟨_, h.1⟩
set_option maxHeartbeats 1000000 in
theorem readEither_any (l : List UInt8) (b o1 o2 : Nat) (vs : List Value) (h1 : o1 < vs.length) (h2 : o2 < vs.length) (w : World) (h : Row w b vs) :
    Calls Tryz.prog 94 #[.pointer (some ⟨b, o1, none⟩), .pointer (some ⟨b, o2, none⟩), .string (bytesA l)] w (ROut (eitherR vs o1 o2 l) b w) := by
  have RG := Lib.hid (fun W => regOf_any l W)
  have NU := Lib.hid (fun vs o ho W hR => readNum_any l b o vs ho W hR)
  obtain ⟨s, hs⟩ : ∃ s, s = bytesA l := ⟨_, rfl⟩
  rw [← hs] at RG NU ⊢
  clear hs
  have H := Lib.hid h
  clear h
  unfold eitherR
  cases hr : regP l with
  | none =>
    rw [hr] at RG
    have FIN := Lib.hid (fun w1 (hb : Below w.heap.size w w1) e w' (h : ROut ((numP l).map fun n : Nat => (vs.set o1 (.int .i64 (-1))).set o2 (.int .u64 (n : Int))) b (w1.setCell ⟨b, o1, none⟩ (.int .i64 (-1))) e w') => h.from (row_set_only H.out hb o1 h1 _).2)
    obtain ⟨R, hR⟩ : ∃ R, R = (numP l).map fun n : Nat => (vs.set o1 (.int .i64 (-1))).set o2 (.int .u64 (n : Int)) := ⟨_, rfl⟩
    have N2 := Lib.hid (fun w1 (hb : Below w.heap.size w w1) => NU.out (vs.set o1 (.int .i64 (-1))) o2 (by simpa using h2) (w1.setCell ⟨b, o1, none⟩ (.int .i64 (-1))) (row_set_only H.out hb o1 h1 _).1)
    simp only []
    rw [← hR] at FIN N2 ⊢
    clear hr hR NU
    go_enter Tryz.func94, Tryz.ntmps94
    go_wp2_with fail
    go_at_call 91
    refine (RG.out _).mono ?_
    rintro e w1 ⟨rfl, hb⟩
    obtain ⟨⟨u, hc⟩, hf⟩ := row_there (H.out.below hb H.out.lt) o1 h1
    have HB := Lib.hid hb
    clear hb
    go_wp2_with fail
    go_at_call 96
    refine (N2.out w1 HB.out).mono ?_
    intro e w' hro
    obtain ⟨v, rfl⟩ := hro.value
    have HO := Lib.hid hro
    clear hro
    go_wp2_with fail
    go_ret
    exact FIN.out _ HB.out _ _ HO.out
  | some n =>
    rw [hr] at RG
    have FIN := Lib.hid (fun w1 (hb : Below w.heap.size w w1) => show ROut (some (vs.set o1 (.int .i64 (n : Int)))) b w (.returned .nilIface) (w1.setCell ⟨b, o1, none⟩ (.int .i64 (n : Int))) from ⟨rfl, row_set_only H.out hb o1 h1 _⟩)
    clear hr NU
    simp only []
    go_enter Tryz.func94, Tryz.ntmps94
    go_wp2_with fail
    go_at_call 91
    refine (RG.out _).mono ?_
    rintro e w1 ⟨rfl, hb⟩
    obtain ⟨⟨u, hc⟩, hf⟩ := row_there (H.out.below hb H.out.lt) o1 h1
    have HB := Lib.hid hb
    clear hb
    go_wp2_with fail
    go_ret
    exact FIN.out _ HB.out
end Go.Proofs.YtneajiglkiffjaaGreatDoor
