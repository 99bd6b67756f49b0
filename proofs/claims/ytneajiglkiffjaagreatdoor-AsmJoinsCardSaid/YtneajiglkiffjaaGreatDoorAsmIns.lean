/- Contract of package asm's readIns (layer 5): a line's words are an instruction, or an error. The conditions: the reader's things and the words lie there, in blocks apart; the table of names holds the names; each word has at most 65536 bytes; fewer than 999990 instructions and names are there by now. -/
import Derived.Test.YtneajiglkiffjaaGreatDoorAsmIns0
import Derived.Deep.CutRange
import Derived.Deep.DeepCutAuto
import Derived.Deep.CutBlock
import Derived.Deep.Light
namespace Go.Proofs.YtneajiglkiffjaaGreatDoor
open Go.RowKit
set_option linter.unusedVariables false

/-- The instruction under way and the kinds of its operands, in new blocks. -/
structure XFresh (w w' : World) (xb : Nat) (Af : Option Addr) (ks : List Nat) (op : Nat) : Prop where
  b : Below w.heap.size w w'
  x : w.heap.size ≤ xb
  r : Row w' xb (Inst.cs { inst0 with op := op })
  k : KindsIn w' Af ks
  a : ∀ q, Af = some ⟨q, 0, none⟩ → 0 < ks.length → w.heap.size ≤ q ∧ q ≠ xb
def zeroCs : List Value := [.int .i64 0, .int .i64 0, .int .i64 0, .int .i64 0, .int .u64 0, .int .i64 0, .int .i64 0]
theorem zrow {w w1 : World} (hb : Below (w.alloc (.cells #[.int .i64 0, .int .i64 0, .int .i64 0, .int .i64 0, .int .u64 0, .int .i64 0, .int .i64 0] 44)).drew.heap.size (w.alloc (.cells #[.int .i64 0, .int .i64 0, .int .i64 0, .int .i64 0, .int .u64 0, .int .i64 0, .int .i64 0] 44)).drew w1) : Row w1 w.heap.size zeroCs := ((Row.new w zeroCs 44).drew).below hb (Row.new w zeroCs 44).lt
theorem zcells {w w1 : World} (hb : Below (w.alloc (.cells #[.int .i64 0, .int .i64 0, .int .i64 0, .int .i64 0, .int .u64 0, .int .i64 0, .int .i64 0] 44)).drew.heap.size (w.alloc (.cells #[.int .i64 0, .int .i64 0, .int .i64 0, .int .i64 0, .int .u64 0, .int .i64 0, .int .i64 0] 44)).drew w1) :
    w1.cell? ⟨w.heap.size, 0, none⟩ = some (.int .i64 0) ∧ w1.cell? ⟨w.heap.size, 1, none⟩ = some (.int .i64 0) ∧ w1.cell? ⟨w.heap.size, 2, none⟩ = some (.int .i64 0) ∧ w1.cell? ⟨w.heap.size, 3, none⟩ = some (.int .i64 0) ∧ w1.cell? ⟨w.heap.size, 4, none⟩ = some (.int .u64 0) ∧ w1.cell? ⟨w.heap.size, 5, none⟩ = some (.int .i64 0) ∧ w1.cell? ⟨w.heap.size, 6, none⟩ = some (.int .i64 0) ∧
    w1.frozen? ⟨w.heap.size, 0, none⟩ = false ∧ w1.frozen? ⟨w.heap.size, 1, none⟩ = false ∧ w1.frozen? ⟨w.heap.size, 2, none⟩ = false ∧ w1.frozen? ⟨w.heap.size, 3, none⟩ = false ∧ w1.frozen? ⟨w.heap.size, 4, none⟩ = false ∧ w1.frozen? ⟨w.heap.size, 5, none⟩ = false ∧ w1.frozen? ⟨w.heap.size, 6, none⟩ = false := by
  have h := zrow hb
  unfold zeroCs at h
  exact ⟨h.cell 0 (by simp), h.cell 1 (by simp), h.cell 2 (by simp), h.cell 3 (by simp), h.cell 4 (by simp), h.cell 5 (by simp), h.cell 6 (by simp), h.free 0 (by simp), h.free 1 (by simp), h.free 2 (by simp), h.free 3 (by simp), h.free 4 (by simp), h.free 5 (by simp), h.free 6 (by simp)⟩
/-- The operands' kinds are asked first. -/
theorem xf1 {w w1 : World} {Af : Option Addr} {ks : List Nat} {op : Nat} (h : KindsIn w1 Af ks ∧ (∀ b, Af = some ⟨b, 0, none⟩ → w.drew.heap.size ≤ b) ∧ Below w.drew.heap.size w.drew w1) :
    XFresh w (w1.alloc (.cells #[.int .i64 (op : Int), .int .i64 0, .int .i64 0, .int .i64 0, .int .u64 0, .int .i64 0, .int .i64 0] 44)) w1.heap.size Af ks op := by
  obtain ⟨h1, h2, h3⟩ := h
  have hb : Below w.heap.size w w1 := (Below.refl w.heap.size w).drew.trans h3
  refine ⟨hb.alloc hb.size _, hb.size, Row.new w1 (Inst.cs { inst0 with op := op }) _, h1.block fun b _ hl => Below.heap_alloc _ _ _ hl, fun q hq hk => ⟨h2 q hq, fun e => ?_⟩⟩
  obtain ⟨b, e1, hl, _⟩ := h1 0 hk
  rw [hq] at e1; cases e1; omega
/-- The instruction's block is laid first. -/
theorem xf2 {w w1 : World} {Af : Option Addr} {ks : List Nat} {op : Nat} (h : KindsIn w1 Af ks ∧ (∀ b, Af = some ⟨b, 0, none⟩ → (w.alloc (.cells #[.int .i64 0, .int .i64 0, .int .i64 0, .int .i64 0, .int .u64 0, .int .i64 0, .int .i64 0] 44)).drew.heap.size ≤ b) ∧ Below (w.alloc (.cells #[.int .i64 0, .int .i64 0, .int .i64 0, .int .i64 0, .int .u64 0, .int .i64 0, .int .i64 0] 44)).drew.heap.size (w.alloc (.cells #[.int .i64 0, .int .i64 0, .int .i64 0, .int .i64 0, .int .u64 0, .int .i64 0, .int .i64 0] 44)).drew w1) :
    XFresh w (((((((w1.setCell ⟨w.heap.size, 0, none⟩ (.int .i64 (op : Int))).setCell ⟨w.heap.size, 1, none⟩ (.int .i64 0)).setCell ⟨w.heap.size, 2, none⟩ (.int .i64 0)).setCell ⟨w.heap.size, 3, none⟩ (.int .i64 0)).setCell ⟨w.heap.size, 4, none⟩ (.int .u64 0)).setCell ⟨w.heap.size, 5, none⟩ (.int .i64 0)).setCell ⟨w.heap.size, 6, none⟩ (.int .i64 0)) w.heap.size Af ks op := by
  obtain ⟨h1, h2, h3⟩ := h
  have hz := zrow h3
  have hs : (w.alloc (.cells #[.int .i64 0, .int .i64 0, .int .i64 0, .int .i64 0, .int .u64 0, .int .i64 0, .int .i64 0] 44)).drew.heap.size = w.heap.size + 1 := by simp [World.drew]
  have hb : Below w.heap.size w w1 := (((Below.refl w.heap.size w).alloc (Nat.le_refl _) _).drew).trans (h3.mono (by rw [hs]; omega))
  have hb7 : Below w.heap.size w (((((((w1.setCell ⟨w.heap.size, 0, none⟩ (.int .i64 (op : Int))).setCell ⟨w.heap.size, 1, none⟩ (.int .i64 0)).setCell ⟨w.heap.size, 2, none⟩ (.int .i64 0)).setCell ⟨w.heap.size, 3, none⟩ (.int .i64 0)).setCell ⟨w.heap.size, 4, none⟩ (.int .u64 0)).setCell ⟨w.heap.size, 5, none⟩ (.int .i64 0)).setCell ⟨w.heap.size, 6, none⟩ (.int .i64 0)) :=
    ((((((hb.setCell (by simp) _).setCell (by simp) _).setCell (by simp) _).setCell (by simp) _).setCell (by simp) _).setCell (by simp) _).setCell (by simp) _
  refine ⟨hb7, Nat.le_refl _, ?_, ?_, fun q hq _ => ?_⟩
  · exact ((((((hz.set 0 (by simp [zeroCs]) (.int .i64 (op : Int))).set 1 (by simp [zeroCs]) (.int .i64 0)).set 2 (by simp [zeroCs]) (.int .i64 0)).set 3 (by simp [zeroCs]) (.int .i64 0)).set 4 (by simp [zeroCs]) (.int .u64 0)).set 5 (by simp [zeroCs]) (.int .i64 0)).set 6 (by simp [zeroCs]) (.int .i64 0)
  · refine h1.block fun b hb _ => ?_
    have := h2 b hb
    have hne : b ≠ w.heap.size := by rw [hs] at this; omega
    rw [Below.heap_setCell _ _ _ _ hne, Below.heap_setCell _ _ _ _ hne, Below.heap_setCell _ _ _ _ hne, Below.heap_setCell _ _ _ _ hne, Below.heap_setCell _ _ _ _ hne, Below.heap_setCell _ _ _ _ hne, Below.heap_setCell _ _ _ _ hne]
  · have := h2 q hq
    rw [hs] at this
    exact ⟨by omega, by omega⟩
/-- The operands are read, one behind the other. -/
structure LoopSt (W1 wr : World) (rb mb n : Nat) (s : AsmS) (vc vl vu : Value) (xb : Nat) (ks : List Nat) (r : List (List UInt8)) (x0 : Inst) (i : Nat) (y : Inst) (us : List (List UInt8)) (vu' : Value) : Prop where
  e : opdsP ks r x0 = (opdsP (ks.drop i) (r.drop i) y).map fun z => (z.1, us ++ z.2)
  wh : y.wh = 0
  len : us.length ≤ i
  R : Rd wr rb mb n { s with uses := s.uses ++ us.map fun u => (u, s.code.length, n) } vc vl vu'
  x : Row wr xb y.cs
  o : Only (xb :: foot rb mb vc vl vu) W1 wr
  l : vu'.ownBlock = vu.ownBlock ∨ ∃ k, vu'.ownBlock = some k ∧ W1.heap.size ≤ k
section
variable {w W1 wr : World} {rb mb n : Nat} {s : AsmS} {vc vl vu : Value} {xb op : Nat} {ks : List Nat} {r : List (List UInt8)} {x0 : Inst} {i : Nat} {y : Inst} {us : List (List UInt8)} {vu' : Value} {Af : Option Addr}
theorem LoopSt.start (h : XFresh w W1 xb Af ks op) (hR : Rd w rb mb n s vc vl vu) : LoopSt W1 W1 rb mb n s vc vl vu xb ks r { inst0 with op := op } 0 { inst0 with op := op } [] vu :=
  ⟨by simp, rfl, Nat.le_refl _, by simpa using hR.only (F := []) (Only.of_below h.b) (by simp), h.r, Only.refl _ _, .inl rfl⟩
theorem LoopSt.notin (h : LoopSt W1 wr rb mb n s vc vl vu xb ks r x0 i y us vu') (hx : XFresh w W1 xb Af ks op) (hR : Rd w rb mb n s vc vl vu) : xb ∉ foot rb mb vc vl vu' := fun hm => by
  have hlt := hx.r.lt
  have hx1 := hx.x
  rcases foot_ok (rb := rb) (mb := mb) (vc := vc) (vl := vl) (w := W1) (.inl rfl) (.inl rfl) h.l xb hm with g | g
  · have := hR.lt xb g; omega
  · omega
theorem LoopSt.keep (h : LoopSt W1 wr rb mb n s vc vl vu xb ks r x0 i y us vu') (hx : XFresh w W1 xb Af ks op) (hR : Rd w rb mb n s vc vl vu) : KindsIn wr Af ks := fun j hj => (hx.k.block fun b hb hl => by
  obtain ⟨h1, h2⟩ := hx.a b hb (by omega)
  refine h.o.block b hl fun hm => ?_
  rcases List.mem_cons.1 hm with e | g
  · exact h2 e
  · have := hR.lt b g; omega) j hj
theorem LoopSt.words {A : Nat} {ws : List (List UInt8)} (h : LoopSt W1 wr rb mb n s vc vl vu xb ks r x0 i y us vu') (hx : XFresh w W1 xb Af ks op) (hA : StrsIn w A ws) (hF : A ∉ foot rb mb vc vl vu) : StrsIn wr A ws := by
  have h1 := hA.lt
  have h2 := hx.x
  have h3 := hx.b.size
  refine (hA.block (hx.b.block A h1)).block (h.o.block A (by omega) fun hm => ?_)
  rcases List.mem_cons.1 hm with e | g
  · omega
  · exact hF g
theorem LoopSt.outer (h : LoopSt W1 wr rb mb n s vc vl vu xb ks r x0 i y us vu') (hx : XFresh w W1 xb Af ks op) : Only (foot rb mb vc vl vu) w wr ∧ FootOk w (foot rb mb vc vl vu) (foot rb mb vc vl vu') := by
  have h1 := hx.x
  refine ⟨⟨h.o.os.trans hx.b.os, h.o.tape.trans hx.b.tape, h.o.output.trans hx.b.output, Nat.le_trans hx.b.size h.o.size, fun k hk hn => ?_⟩, ?_⟩
  · rw [h.o.block k (Nat.lt_of_lt_of_le hk hx.b.size) (fun hm => by
      rcases List.mem_cons.1 hm with e | g
      · omega
      · exact hn g)]
    exact hx.b.block k hk
  · refine foot_ok (.inl rfl) (.inl rfl) ?_
    rcases h.l with g | ⟨k, g, hs⟩
    · exact .inl g
    · exact .inr ⟨k, g, Nat.le_trans hx.b.size hs⟩
theorem LoopSt.step (h : LoopSt W1 wr rb mb n s vc vl vu xb ks r x0 i y us vu') (hk : i < ks.length) (hr : i < r.length) {z : Inst} {u : Option (List UInt8)} (hz : opdP (ks.getD i 0) (r.getD i []) y = some (z, u)) {w' : World} {vu2 : Value}
    (hR : Rd w' rb mb n (AsmS.use { s with uses := s.uses ++ us.map fun u => (u, s.code.length, n) } n u) vc vl vu2) (hX : Row w' xb z.cs) (hO : Only (xb :: foot rb mb vc vl vu') wr w') (hl : vu2.ownBlock = vu'.ownBlock ∨ ∃ k, vu2.ownBlock = some k ∧ wr.heap.size ≤ k) :
    LoopSt W1 w' rb mb n s vc vl vu xb ks r x0 (i + 1) z (us ++ u.toList) vu2 := by
  have hsz := h.o.size
  refine ⟨?_, (opd_wh _ _ _ _ _ hz).trans h.wh, ?_, ?_, hX, ?_, ?_⟩
  · rw [h.e, opds_step ks r i hk hr y, hz]
    simp only [Option.map_map]
    congr 1
    funext q
    simp
  · have := h.len
    rw [List.length_append]
    cases u <;> simp <;> omega
  · have e : ({ s with uses := s.uses ++ (us ++ u.toList).map fun u => (u, s.code.length, n) } : AsmS) = AsmS.use { s with uses := s.uses ++ us.map fun u => (u, s.code.length, n) } n u := by simp [AsmS.use]
    rw [e]; exact hR
  · refine ⟨hO.os.trans h.o.os, hO.tape.trans h.o.tape, hO.output.trans h.o.output, Nat.le_trans hsz hO.size, fun k hk hn => ?_⟩
    rw [hO.block k (Nat.lt_of_lt_of_le hk hsz) (fun hm => hn (by
      rcases List.mem_cons.1 hm with e | g
      · rw [e]; simp
      · rcases foot_ok (rb := rb) (mb := mb) (vc := vc) (vl := vl) (w := W1) (.inl rfl) (.inl rfl) h.l k g with g | g
        · exact List.mem_cons.2 (.inr g)
        · omega))]
    exact h.o.block k hk hn
  · rcases hl with g | ⟨k, g, hs⟩
    · rw [g]; exact h.l
    · exact .inr ⟨k, g, Nat.le_trans hsz hs⟩
theorem LoopSt.done (h : LoopSt W1 wr rb mb n s vc vl vu xb ks r x0 i y us vu') (hi : i = ks.length) : opdsP ks r x0 = some (y, us) := by
  rw [h.e, hi, List.drop_length]
  simp [opdsP]
theorem LoopSt.bad (h : LoopSt W1 wr rb mb n s vc vl vu xb ks r x0 i y us vu') (hk : i < ks.length) (hr : i < r.length) (hz : opdP (ks.getD i 0) (r.getD i []) y = none) : opdsP ks r x0 = none := by
  rw [h.e, opds_step ks r i hk hr y, hz]; rfl
/-- The instruction is laid behind the others. -/
theorem ins_done (h1 : Only (foot rb mb vc vl vu) w wr) (h2 : FootOk w (foot rb mb vc vl vu) (foot rb mb vc vl vu')) (hR : Rd wr rb mb n { s with uses := s.uses ++ us.map fun u => (u, s.code.length, n) } vc vl vu') {W3 : World} {v' : Value} (hp : Pushed wr W3 vc v')
    (ho : W3.ownsRow 0 44 7 v' (s.code.length + 1) (flatCs s.code ++ y.cs)) : InsOut (some (y, us)) rb mb n s vc vl vu w (.returned .nilIface) (W3.setCell ⟨rb, 1, none⟩ v') := by
  obtain ⟨_, h3, h4⟩ := hR.pushC hp y ho
  refine ⟨rfl, v', vu', h3, only_foot h1 h2 h4, fun k hk => ?_⟩
  rcases foot_ok (w := wr) (rb := rb) (mb := mb) (vl := vl) (vl' := vl) (vu := vu') (vu' := vu') hp.loc (.inl rfl) (.inl rfl) k hk with g | g
  · exact h2 k g
  · exact .inr (Nat.le_trans h1.size g)
end
theorem drop1 (ws : List (List UInt8)) (i : Nat) : ws.getD (1 + i) [] = ws.tail.getD i [] := by
  cases ws with
  | nil => simp
  | cons a l => rw [show 1 + i = i + 1 by omega]; rfl
set_option maxHeartbeats 8000000 in
set_option maxRecDepth 100000 in
theorem readIns_any (ws : List (List UInt8)) (A rb mb n : Nat) (s : AsmS) (vc vl vu : Value) (w : World) (h : InsIn' ws A rb mb n s vc vl vu w) :
    Calls Tryz.prog 56 #[.pointer (some ⟨rb, 0, none⟩), .slice (some ⟨A, 0, none⟩) ws.length ws.length] w (InsOut (insP ws) rb mb n s vc vl vu w) := by
  obtain ⟨R, hR⟩ : ∃ R, R = insP ws := ⟨_, rfl⟩
  rw [← hR]
  have HR := Lib.hid hR
  obtain ⟨Ac, capc, rfl⟩ := own_form h.hR.c
  have HI := Lib.hid h
  have OP := Lib.hid (opOf_any (bytesA (ws.getD 0 [])) w h.hN)
  rw [show (bytesA (ws.getD 0 [])).data.toList = ws.getD 0 [] by simp] at OP
  have w0 := h.hA.cell 0 h.h1
  have hN2 := h.hn
  have hC := h.hC
  have hU := h.hU
  obtain ⟨m, hm⟩ : ∃ m, ws.length = m + 1 := ⟨ws.length - 1, by have := h.h1; omega⟩
  rw [hm] at hN2 ⊢
  have HM := Lib.hid (show ws.tail.length = m by rw [List.length_tail, hm]; rfl)
  have HM1 := Lib.hid hm
  obtain ⟨t0, ht0⟩ : ∃ t, t = bytesA (ws.getD 0 []) := ⟨_, rfl⟩
  rw [← ht0] at OP w0
  clear ht0 hR h hm
  have i0 : (0 : Int) < (m : Int) + 1 := by omega
  have i1 : (1 : Int) ≤ (m : Int) + 1 := by omega
  cases hop : opP (ws.getD 0 []) with
  | none =>
    rw [hop] at OP
    have FIN := Lib.hid (fun t v => show InsOut R rb mb n s (.slice Ac s.code.length capc) vl vu w (.returned (.iface t v)) w from by
      rw [HR.out, insP, hop]; exact ⟨⟨_, _, rfl⟩, Only.refl _ _⟩)
    clear hop
    go_enter Tryz.func56, Tryz.ntmps56
    go_wp2_with fail
    go_at_call 75
    refine OP.out.mono ?_
    rintro e w1 ⟨rfl, rfl⟩
    go_wp2_with fail
    go_ret
    exact FIN.out _ _
  | some op =>
    rw [hop] at OP
    have FO := Lib.hid (fun W => opsOf_any (op : Int) W)
    rw [show ((op : Int)).toNat = op by simp] at FO
    obtain ⟨ks, hks⟩ : ∃ ks, ks = formOf op := ⟨_, rfl⟩
    rw [← hks] at FO
    have HKIND := Lib.hid (show ∀ i, ks.getD i 0 ≤ 8 from fun i => by rw [hks]; exact form_kind op i)
    have h3 : ks.length ≤ 3 := by rw [hks]; exact form_le op
    have E := Lib.hid (show insP ws = if ws.tail.length ≠ ks.length ∧ markedB ws.tail ks.length = false then none else match opdsP ks ws.tail { inst0 with op := op } with | none => none | some (x, us) => if markedB ws.tail ks.length then (markP x (ws.tail.getD ks.length [])).map fun y => (y, us) else some (x, us) from by
      rw [insP, hop, hks]
      rfl)
    clear hop hks
    obtain ⟨k, hk⟩ : ∃ k, k = ks.length := ⟨_, rfl⟩
    rw [← hk] at h3
    have HK := Lib.hid hk
    have FO2 := Lib.hid (show ∀ W, Calls Tryz.prog 36 #[.int .i64 (op : Int)] W fun e w' => ∃ Af cap, e = .returned (.slice Af k cap) ∧ KindsIn w' Af ks ∧ (∀ b, Af = some ⟨b, 0, none⟩ → W.heap.size ≤ b) ∧ Below W.heap.size W w' from fun W => by rw [hk]; exact FO.out W)
    clear FO hk
    obtain ⟨RA, hRA⟩ : ∃ RA : Option Addr, RA = (if m = 0 then some ⟨A, 0, none⟩ else some ⟨A, 1, none⟩) := ⟨_, rfl⟩
    have HRA := Lib.hid hRA
    clear hRA
    go_enter Tryz.func56, Tryz.ntmps56
    go_wp2_with fail
    go_at_call 75
    refine OP.out.mono ?_
    rintro e w1 ⟨rfl, rfl⟩
    go_wp2_with fail
    go_upto_region 4 with fail
    go_cut [7, 8, 9] from 25 to 30 (fun s7 s8 s9 w' => ∃ xb Af capf Wn, Wn = w' ∧ s7 = .pointer (some ⟨xb, 0, none⟩) ∧ s8 = .slice Af k capf ∧ s9 = .slice RA m m ∧ Hid (XFresh w Wn xb Af ks op))
    case first =>
     as_aux_lemma =>
      by_cases hone : m = 0
      · have e2 : RA = some ⟨A, 0, none⟩ := by rw [HRA.out, if_pos hone]
        subst hone e2
        go_region_with (go_at_call 36; (first | ((with_reducible refine (FO2.out (w.alloc (.cells #[.int .i64 0, .int .i64 0, .int .i64 0, .int .i64 0, .int .u64 0, .int .i64 0, .int .i64 0] 44)).drew).mono ?_); rintro e w1 ⟨Af, capf, rfl, hk1, hk2, hb1⟩; have HK := Lib.hid (And.intro hk1 (And.intro hk2 hb1)); obtain ⟨z0, z1, z2, z3, z4, z5, z6, g0, g1, g2, g3, g4, g5, g6⟩ := zcells hb1; clear hk1 hk2 hb1) | ((with_reducible refine (FO2.out w.drew).mono ?_); rintro e w1 ⟨Af, capf, rfl, hk1, hk2, hb1⟩; have HK := Lib.hid (And.intro hk1 (And.intro hk2 hb1)); clear hk1 hk2 hb1)))
        all_goals (go_wp2_with fail; go_meet)
        · exact ⟨_, _, _, _, rfl, rfl, rfl, rfl, Lib.hid (xf1 HK.out)⟩
        · exact ⟨_, _, _, _, rfl, rfl, rfl, rfl, Lib.hid (xf2 HK.out)⟩
      · have e2 : RA = some ⟨A, 1, none⟩ := by rw [HRA.out, if_neg hone]
        subst e2
        have hone2 : ¬ (0 = m) := fun h => hone h.symm
        go_region_with (go_at_call 36; (first | ((with_reducible refine (FO2.out (w.alloc (.cells #[.int .i64 0, .int .i64 0, .int .i64 0, .int .i64 0, .int .u64 0, .int .i64 0, .int .i64 0] 44)).drew).mono ?_); rintro e w1 ⟨Af, capf, rfl, hk1, hk2, hb1⟩; have HK := Lib.hid (And.intro hk1 (And.intro hk2 hb1)); obtain ⟨z0, z1, z2, z3, z4, z5, z6, g0, g1, g2, g3, g4, g5, g6⟩ := zcells hb1; clear hk1 hk2 hb1) | ((with_reducible refine (FO2.out w.drew).mono ?_); rintro e w1 ⟨Af, capf, rfl, hk1, hk2, hb1⟩; have HK := Lib.hid (And.intro hk1 (And.intro hk2 hb1)); clear hk1 hk2 hb1)))
        all_goals (go_wp2_with fail; go_meet)
        · exact ⟨_, _, _, _, rfl, rfl, rfl, rfl, Lib.hid (xf1 HK.out)⟩
        · exact ⟨_, _, _, _, rfl, rfl, rfl, rfl, Lib.hid (xf2 HK.out)⟩
    case rest =>
    obtain ⟨xb, Af, capf, W1, rfl, rfl, rfl, rfl, XF⟩ := hcut
    clear FO2 OP w0
    have HT := Lib.hid (fun i (hi : i < m) => show (ws.tail.getD i []).length ≤ 65536 from by
      rw [List.getD_eq_getElem?_getD, List.getElem?_eq_getElem (by rw [HM.out]; exact hi)]
      exact HI.out.hl _ (List.mem_of_mem_tail (List.getElem_mem _)))
    have WD := Lib.hid (show ∀ wr : World, StrsIn wr A ws → ∀ i, i < m → wr.cell? ⟨A, 1 + i, none⟩ = some (.string (bytesA (ws.tail.getD i []))) from fun wr hs i hi => by rw [← drop1]; exact hs.cell (1 + i) (by rw [HM1.out]; omega))
    by_cases hA : m = k + 1
    · -- one word more than operands
      have e2 : RA = some ⟨A, 1, none⟩ := by rw [HRA.out, if_neg (by omega)]
      subst e2
      have E1 := Lib.hid (show ws.tail.length = ks.length + 1 from by rw [HM.out, hA, HK.out])
      have m1 : ((m : Int) == (k : Int) + 1) = true := by subst hA; simp
      have m2 : ((m : Int) == (k : Int)) = false := by subst hA; simp; omega
      have m3 : ((m : Int) != (k : Int)) = true := by subst hA; simp; omega
      have m4 : (k : Int) < (m : Int) := by omega
      have wcell := WD.out _ (HI.out.hA.block (XF.out.b.block A HI.out.hA.lt)) k (by omega)
      obtain ⟨p, hp⟩ : ∃ p, p = [33].isPrefixOf (ws.tail.getD k []) := ⟨_, rfl⟩
      have HP := Lib.hid (show ∀ W, Calls Tryz.prog 76 #[.string (bytesA (ws.tail.getD k [])), .string ⟨#[33]⟩] W fun e w' => e = .returned (.bool p) ∧ W = w' from fun W => (Tryz.strings_HasPrefix (bytesA (ws.tail.getD k [])) ⟨#[33]⟩ W).mono fun e w' ⟨h1, h2⟩ => ⟨by rw [h1, hp]; simp [Lib.hasPrefix], h2.symm⟩)
      have MK := Lib.hid (show markedB ws.tail ks.length = p from by unfold markedB; rw [E1.out, ← HK.out, hp]; simp)
      obtain ⟨tk, htk⟩ : ∃ tk, tk = bytesA (ws.tail.getD k []) := ⟨_, rfl⟩
      rw [← htk] at wcell HP
      have HTK := Lib.hid (And.intro htk hp)
      clear htk hp hA
      cases p with
      | false =>
        have FIN := Lib.hid (fun t v => show InsOut R rb mb n s (.slice Ac s.code.length capc) vl vu w (.returned (.iface t v)) W1 from by
          rw [HR.out, E.out, if_pos ⟨by rw [E1.out]; omega, MK.out⟩]
          exact ⟨⟨_, _, rfl⟩, Only.of_below XF.out.b⟩)
        go_wp2_with fail
        go_at_call 76
        refine (HP.out _).mono ?_
        rintro e w1 ⟨rfl, rfl⟩
        go_wp2_with fail
        go_ret
        exact FIN.out _ _
      | true =>
        go_wp2_with fail
        go_at_call 76
        refine (HP.out _).mono ?_
        rintro e w1 ⟨rfl, rfl⟩
        go_wp2_with fail
        go_loopw [57] (fun vi wr => ∃ i y us vu', i ≤ k ∧ vi = .int .i64 i ∧ Hid (LoopSt W1 wr rb mb n s (.slice Ac s.code.length capc) vl vu xb ks ws.tail { inst0 with op := op } i y us vu')) (fun vi _ => k - (intOf vi).toNat)
        case atStart => exact ⟨0, _, [], vu, by omega, rfl, Lib.hid (LoopSt.start XF.out HI.out.hR)⟩
        case round =>
          obtain ⟨i, y, us, vu', hi, rfl, LS⟩ := hrel
          by_cases hlt : i < k
          · obtain ⟨q, rfl, hql, kc⟩ := (LS.out.keep XF.out HI.out.hR) i (by rw [← HK.out]; exact hlt)
            have rc := WD.out _ (LS.out.words XF.out HI.out.hA HI.out.hF) i (by omega)
            have OI := Lib.hid (readOpd_any (ks.getD i 0) (HKIND.out i) (ws.tail.getD i []) rb mb n { s with uses := s.uses ++ us.map fun u => (u, s.code.length, n) } (.slice Ac s.code.length capc) vl vu' xb y wr ⟨HT.out i (by omega), LS.out.notin XF.out HI.out.hR, LS.out.R, LS.out.x, by have := LS.out.len; simp; omega⟩)
            obtain ⟨kk, hkk⟩ : ∃ kk : Int, kk = ((ks.getD i 0 : Nat) : Int) := ⟨_, rfl⟩
            obtain ⟨tt, htt⟩ : ∃ tt, tt = bytesA (ws.tail.getD i []) := ⟨_, rfl⟩
            rw [← hkk] at kc OI
            rw [← htt] at rc OI
            clear hkk htt
            cases hz : opdP (ks.getD i 0) (ws.tail.getD i []) y with
            | none =>
              rw [hz] at OI
              have FIN := Lib.hid (fun t v w' (ho : Only (xb :: foot rb mb (.slice Ac s.code.length capc) vl vu') wr w') => show InsOut R rb mb n s (.slice Ac s.code.length capc) vl vu w (.returned (.iface t v)) w' from by
                rw [HR.out, E.out, LS.out.bad (by rw [← HK.out]; exact hlt) (by rw [HM.out]; omega) hz]
                have hx := (LS.out.outer XF.out)
                have hx9 := XF.out.x
                simp only [ite_self]
                exact ⟨⟨_, _, rfl⟩, only_foot hx.1 (F' := xb :: foot rb mb (.slice Ac s.code.length capc) vl vu') (fun k hk => by
                  rcases List.mem_cons.1 hk with e | g
                  · exact .inr (by omega)
                  · exact hx.2 k g) ho⟩)
              clear hz
              go_wp2_with fail
              go_at_call 77
              refine OI.out.mono ?_
              rintro e w' ⟨⟨t, v, rfl⟩, ho⟩
              have HO := Lib.hid ho
              clear ho
              go_wp2_with fail
              go_ret
              exact FIN.out _ _ _ HO.out
            | some p =>
              obtain ⟨z, u⟩ := p
              rw [hz] at OI
              have NX := Lib.hid (fun w' vu2 hR hX hO hl => LS.out.step (by rw [← HK.out]; exact hlt) (by rw [HM.out]; omega) hz (w' := w') (vu2 := vu2) hR hX hO hl)
              clear hz
              go_wp2_with fail
              go_at_call 77
              refine OI.out.mono ?_
              rintro e w' ⟨rfl, vu2, q1, q2, q3, q4⟩
              have NL := Lib.hid (NX.out w' vu2 q1 q2 q3 q4)
              clear q1 q2 q3 q4
              go_wp2_with fail
              go_roundw
              case rel => exact ⟨i + 1, z, _, vu2, by omega, by go_num, NL⟩
              case measure => simp [intOf]; omega
          · have hik : i = ks.length := by rw [← HK.out]; omega
            have DN := Lib.hid (LS.out.done hik)
            have lc := WD.out _ (LS.out.words XF.out HI.out.hA HI.out.hF) k (by omega)
            rw [← HTK.out.1] at lc
            have INS := Lib.hid (show insP ws = (markP y (ws.tail.getD k [])).map fun z => (z, us) from by
              rw [E.out, if_neg (by rw [MK.out]; simp), DN.out]
              simp only [MK.out, if_true]
              rw [HK.out])
            clear hik wcell
            have hpre : 1 ≤ (ws.tail.getD k []).length := by
              have h9 := HTK.out.2
              cases hl : ws.tail.getD k [] with
              | nil => rw [hl] at h9; simp at h9
              | cons a b => simp
            have MA := Lib.hid (show Calls Tryz.prog 78 #[.pointer (some ⟨xb, 0, none⟩), .string tk] wr (ROut ((markP y (ws.tail.getD k [])).map Inst.cs) xb wr) from by
              have hx := LS.out.x
              have hw := LS.out.wh
              rw [HTK.out.1]
              have hl := HT.out k (by omega)
              obtain ⟨yo, ya, yb, yc, yv, ym, yw⟩ := y
              simp only at hw
              subst hw
              have := readMark_any (bytesA (ws.tail.getD k [])) (by rw [bytesA_size]; exact hpre) (by rw [bytesA_size]; exact hl) xb yo ya yb yc yv ym wr hx
              simpa using this)
            cases hmk : markP y (ws.tail.getD k []) with
            | none =>
              rw [hmk] at MA
              have FIN := Lib.hid (fun t v w' (ho : Only [xb] wr w') => show InsOut R rb mb n s (.slice Ac s.code.length capc) vl vu w (.returned (.iface t v)) w' from by
                rw [HR.out, INS.out, hmk]
                have hx := (LS.out.outer XF.out)
                have hx9 := XF.out.x
                exact ⟨⟨_, _, rfl⟩, only_foot hx.1 (F' := [xb]) (fun k hk => .inr (by simp at hk; omega)) ho⟩)
              clear hmk hpre
              go_wp2_with fail
              go_at_call 78
              refine MA.out.mono ?_
              rintro e w' ⟨⟨t, v, rfl⟩, ho⟩
              have HO := Lib.hid ho
              clear ho
              go_wp2_with fail
              go_ret
              exact FIN.out _ _ _ HO.out
            | some z =>
              rw [hmk] at MA
              have INS2 := Lib.hid (show insP ws = some (z, us) from by rw [INS.out, hmk]; rfl)
              clear hmk hpre
              go_wp2_with fail
              go_at_call 78
              refine MA.out.mono ?_
              rintro e wf ⟨rfl, hrow, ho⟩
              have ROWF := Lib.hid hrow
              have hx9 := XF.out.x
              have RDF := Lib.hid (LS.out.R.only ho (fun k hk hm => LS.out.notin XF.out HI.out.hR (by simp at hm; rw [← hm]; exact hk)))
              have OUT := Lib.hid (show Only (foot rb mb (.slice Ac s.code.length capc) vl vu) w wf ∧ FootOk w (foot rb mb (.slice Ac s.code.length capc) vl vu) (foot rb mb (.slice Ac s.code.length capc) vl vu') from
                ⟨only_foot (LS.out.outer XF.out).1 (F' := [xb]) (fun k hk => .inr (by simp at hk; omega)) ho, (LS.out.outer XF.out).2⟩)
              clear hrow ho hx9
              obtain ⟨c0, c1, c2, c3, c4⟩ := RDF.out.cells
              have x0 := ROWF.out.cell 0 (by simp [Inst.cs])
              have x1 := ROWF.out.cell 1 (by simp [Inst.cs])
              have x2 := ROWF.out.cell 2 (by simp [Inst.cs])
              have x3 := ROWF.out.cell 3 (by simp [Inst.cs])
              have x4 := ROWF.out.cell 4 (by simp [Inst.cs])
              have x5 := ROWF.out.cell 5 (by simp [Inst.cs])
              have x6 := ROWF.out.cell 6 (by simp [Inst.cs])
              simp only [Inst.cs, List.getElem_cons_succ, List.getElem_cons_zero] at x0 x1 x2 x3 x4 x5 x6
              obtain ⟨_, k1, _, _, _⟩ := (RDF.out.alloc (.cells #[.int .i64 z.op, .int .i64 z.a, .int .i64 z.b, .int .i64 z.c, .int .u64 z.v, .int .i64 z.m, .int .i64 z.wh] 44)).cells
              obtain ⟨v', W3, hr, ho, hg, hloc, hsz⟩ := push_any (t := 22) (e := 44) Tryz.underlying22 info_Inst rfl (by decide) (by decide) (X := (wf.alloc (.cells #[.int .i64 z.op, .int .i64 z.a, .int .i64 z.b, .int .i64 z.c, .int .u64 z.v, .int .i64 z.m, .int .i64 z.wh] 44)).drew)
                (RDF.out.alloc (.cells #[.int .i64 z.op, .int .i64 z.a, .int .i64 z.b, .int .i64 z.c, .int .u64 z.v, .int .i64 z.m, .int .i64 z.wh] 44)).c.drew (show s.code.length < 1000000 by omega) wf.heap.size
                (Inst.cs z) rfl (fun j u hu => by show (wf.alloc _).cell? _ = _; rw [World.cell?_alloc_at _ _ _ _ rfl]; simpa [Inst.cs] using hu) (by intro u hu; simp [Inst.cs] at hu; rcases hu with rfl | rfl | rfl | rfl | rfl | rfl | rfl <;> rfl) 22
              obtain ⟨A', cap', rfl⟩ := own_form ho
              have PU := Lib.hid (pushed hg hloc)
              have FINW := Lib.hid (show InsOut R rb mb n s (.slice Ac s.code.length capc) vl vu w (.returned .nilIface) (W3.setCell ⟨rb, 1, none⟩ (.slice A' (s.code.length + 1) cap')) from by
                rw [HR.out, INS2.out]
                exact ins_done OUT.out.1 OUT.out.2 RDF.out PU.out ho)
              have hrb : W3.heap[rb]? = _ := (PU.out.keep rb (RDF.out.lt rb (by simp [foot])) (fun e => (RDF.out.cApart rb e).1 rfl)).trans RDF.out.r
              have d4 : W3.cell? ⟨rb, 1, none⟩ = some (.slice Ac s.code.length capc) := by rw [cell_of_row W3 rb 1 _ _ (0, 0) hrb]; rfl
              have g4 : W3.frozen? ⟨rb, 1, none⟩ = false := by simp [World.frozen?, hrb]
              have HRUN := Lib.hid hr
              clear hr ho hg hloc hsz hrb
              go_wp2_with fail
              go_region_law (refine step_call rfl (.tmp 87) (.tmp 89) 22 22 rfl (.slice Ac s.code.length capc) _ (by simp [Act.eval]) (by simp [Act.eval]) HRUN.out ?_)
              all_goals
                go_wp2_with fail
                go_ret
                exact FINW.out
    · by_cases hB : m = k
      · -- as many words as operands
        have E1 := Lib.hid (show ws.tail.length = ks.length from by rw [HM.out, hB, HK.out])
        have m1 : ((m : Int) == (k : Int) + 1) = false := beq_eq_false_iff_ne.2 (by omega)
        have m2 : ((m : Int) == (k : Int)) = true := by subst hB; simp
        have m3 : ((m : Int) != (k : Int)) = false := by subst hB; simp
        have MK := Lib.hid (show markedB ws.tail ks.length = false from by unfold markedB; rw [E1.out]; simp)
        have m5 : k ≤ m := by omega
        have HRA2 := Lib.hid (show m ≠ 0 → RA = some ⟨A, 1, none⟩ from fun h => by rw [HRA.out, if_neg h])
        clear hA hB
        go_wp2_with fail
        go_loopw [57] (fun vi wr => ∃ i y us vu', i ≤ k ∧ vi = .int .i64 i ∧ Hid (LoopSt W1 wr rb mb n s (.slice Ac s.code.length capc) vl vu xb ks ws.tail { inst0 with op := op } i y us vu')) (fun vi _ => k - (intOf vi).toNat)
        case atStart => exact ⟨0, _, [], vu, by omega, rfl, Lib.hid (LoopSt.start XF.out HI.out.hR)⟩
        case round =>
          obtain ⟨i, y, us, vu', hi, rfl, LS⟩ := hrel
          by_cases hlt : i < k
          · obtain ⟨q, rfl, hql, kc⟩ := (LS.out.keep XF.out HI.out.hR) i (by rw [← HK.out]; exact hlt)
            have e2 : RA = some ⟨A, 1, none⟩ := HRA2.out (by omega)
            subst e2
            have rc := WD.out _ (LS.out.words XF.out HI.out.hA HI.out.hF) i (by omega)
            have OI := Lib.hid (readOpd_any (ks.getD i 0) (HKIND.out i) (ws.tail.getD i []) rb mb n { s with uses := s.uses ++ us.map fun u => (u, s.code.length, n) } (.slice Ac s.code.length capc) vl vu' xb y wr ⟨HT.out i (by omega), LS.out.notin XF.out HI.out.hR, LS.out.R, LS.out.x, by have := LS.out.len; simp; omega⟩)
            obtain ⟨kk, hkk⟩ : ∃ kk : Int, kk = ((ks.getD i 0 : Nat) : Int) := ⟨_, rfl⟩
            obtain ⟨tt, htt⟩ : ∃ tt, tt = bytesA (ws.tail.getD i []) := ⟨_, rfl⟩
            rw [← hkk] at kc OI
            rw [← htt] at rc OI
            clear hkk htt
            cases hz : opdP (ks.getD i 0) (ws.tail.getD i []) y with
            | none =>
              rw [hz] at OI
              have FIN := Lib.hid (fun t v w' (ho : Only (xb :: foot rb mb (.slice Ac s.code.length capc) vl vu') wr w') => show InsOut R rb mb n s (.slice Ac s.code.length capc) vl vu w (.returned (.iface t v)) w' from by
                rw [HR.out, E.out, LS.out.bad (by rw [← HK.out]; exact hlt) (by rw [HM.out]; omega) hz]
                have hx := (LS.out.outer XF.out)
                have hx9 := XF.out.x
                simp only [ite_self]
                exact ⟨⟨_, _, rfl⟩, only_foot hx.1 (F' := xb :: foot rb mb (.slice Ac s.code.length capc) vl vu') (fun k hk => by
                  rcases List.mem_cons.1 hk with e | g
                  · exact .inr (by omega)
                  · exact hx.2 k g) ho⟩)
              clear hz
              go_wp2_with fail
              go_at_call 77
              refine OI.out.mono ?_
              rintro e w' ⟨⟨t, v, rfl⟩, ho⟩
              have HO := Lib.hid ho
              clear ho
              go_wp2_with fail
              go_ret
              exact FIN.out _ _ _ HO.out
            | some p =>
              obtain ⟨z, u⟩ := p
              rw [hz] at OI
              have NX := Lib.hid (fun w' vu2 hR hX hO hl => LS.out.step (by rw [← HK.out]; exact hlt) (by rw [HM.out]; omega) hz (w' := w') (vu2 := vu2) hR hX hO hl)
              clear hz
              go_wp2_with fail
              go_at_call 77
              refine OI.out.mono ?_
              rintro e w' ⟨rfl, vu2, q1, q2, q3, q4⟩
              have NL := Lib.hid (NX.out w' vu2 q1 q2 q3 q4)
              clear q1 q2 q3 q4
              go_wp2_with fail
              go_roundw
              case rel => exact ⟨i + 1, z, _, vu2, by omega, by go_num, NL⟩
              case measure => simp [intOf]; omega
          · have hik : i = ks.length := by rw [← HK.out]; omega
            have DN := Lib.hid (LS.out.done hik)
            have INS := Lib.hid (show insP ws = some (y, us) from by
              rw [E.out, if_neg (by rw [E1.out]; simp), DN.out]
              simp only [MK.out]
              rfl)
            clear hik
            have OUT := Lib.hid (LS.out.outer XF.out)
            obtain ⟨c0, c1, c2, c3, c4⟩ := LS.out.R.cells
            have x0 := LS.out.x.cell 0 (by simp [Inst.cs])
            have x1 := LS.out.x.cell 1 (by simp [Inst.cs])
            have x2 := LS.out.x.cell 2 (by simp [Inst.cs])
            have x3 := LS.out.x.cell 3 (by simp [Inst.cs])
            have x4 := LS.out.x.cell 4 (by simp [Inst.cs])
            have x5 := LS.out.x.cell 5 (by simp [Inst.cs])
            have x6 := LS.out.x.cell 6 (by simp [Inst.cs])
            simp only [Inst.cs, List.getElem_cons_succ, List.getElem_cons_zero] at x0 x1 x2 x3 x4 x5 x6
            obtain ⟨_, k1, _, _, _⟩ := (LS.out.R.alloc (.cells #[.int .i64 y.op, .int .i64 y.a, .int .i64 y.b, .int .i64 y.c, .int .u64 y.v, .int .i64 y.m, .int .i64 y.wh] 44)).cells
            obtain ⟨v', W3, hr, ho, hg, hloc, hsz⟩ := push_any (t := 22) (e := 44) Tryz.underlying22 info_Inst rfl (by decide) (by decide) (X := (wr.alloc (.cells #[.int .i64 y.op, .int .i64 y.a, .int .i64 y.b, .int .i64 y.c, .int .u64 y.v, .int .i64 y.m, .int .i64 y.wh] 44)).drew)
              (LS.out.R.alloc (.cells #[.int .i64 y.op, .int .i64 y.a, .int .i64 y.b, .int .i64 y.c, .int .u64 y.v, .int .i64 y.m, .int .i64 y.wh] 44)).c.drew (show s.code.length < 1000000 by omega) wr.heap.size
              (Inst.cs y) rfl (fun j u hu => by show (wr.alloc _).cell? _ = _; rw [World.cell?_alloc_at _ _ _ _ rfl]; simpa [Inst.cs] using hu) (by intro u hu; simp [Inst.cs] at hu; rcases hu with rfl | rfl | rfl | rfl | rfl | rfl | rfl <;> rfl) 22
            obtain ⟨A', cap', rfl⟩ := own_form ho
            have PU := Lib.hid (pushed hg hloc)
            have FINW := Lib.hid (show InsOut R rb mb n s (.slice Ac s.code.length capc) vl vu w (.returned .nilIface) (W3.setCell ⟨rb, 1, none⟩ (.slice A' (s.code.length + 1) cap')) from by
              rw [HR.out, INS.out]
              exact ins_done OUT.out.1 OUT.out.2 LS.out.R PU.out ho)
            have hrb : W3.heap[rb]? = _ := (PU.out.keep rb (LS.out.R.lt rb (by simp [foot])) (fun e => (LS.out.R.cApart rb e).1 rfl)).trans LS.out.R.r
            have d4 : W3.cell? ⟨rb, 1, none⟩ = some (.slice Ac s.code.length capc) := by rw [cell_of_row W3 rb 1 _ _ (0, 0) hrb]; rfl
            have g4 : W3.frozen? ⟨rb, 1, none⟩ = false := by simp [World.frozen?, hrb]
            have HRUN := Lib.hid hr
            clear hr ho hg hloc hsz hrb
            go_wp2_with fail
            go_region_law (refine step_call rfl (.tmp 87) (.tmp 89) 22 22 rfl (.slice Ac s.code.length capc) _ (by simp [Act.eval]) (by simp [Act.eval]) HRUN.out ?_)
            all_goals
              go_wp2_with fail
              go_ret
              exact FINW.out
      · have E1 := Lib.hid (show ws.tail.length ≠ ks.length ∧ markedB ws.tail ks.length = false from ⟨by rw [HM.out, ← HK.out]; exact hB, by
          unfold markedB
          rw [HM.out, ← HK.out, decide_eq_false hA]; rfl⟩)
        have m1 : ((m : Int) == (k : Int) + 1) = false := by simp; omega
        have m2 : ((m : Int) == (k : Int)) = false := by simp; omega
        have m3 : ((m : Int) != (k : Int)) = true := by simp; omega
        have FIN := Lib.hid (fun t v => show InsOut R rb mb n s (.slice Ac s.code.length capc) vl vu w (.returned (.iface t v)) W1 from by
          rw [HR.out, E.out, if_pos E1.out]
          exact ⟨⟨_, _, rfl⟩, Only.of_below XF.out.b⟩)
        clear hA hB
        go_wp2_with fail
        go_ret
        exact FIN.out _ _
end Go.Proofs.YtneajiglkiffjaaGreatDoor
