/- The program's memory and the document's, side by side (layer 2): in one state; two calls of both, in either order, and Same behind them. -/
import Derived.Test.YtdnamjlknmcdjaaDoorMemUnmap
import Derived.Test.YtdnamjlknmcdjaaDoorMemCalls
import Derived.Test.YtdnamjlknmcdjaaDoorRefMemRest
import Derived.Test.YtdnamjlknmcdjaaDoorRefMemUnmap
import Derived.Test.YtdnamjlknmcdjaaDoorSameAt
namespace Go.Proofs.YtdnamjlknmcdjaaDoor
open Go.RowKit
set_option linter.unusedVariables false

/-- Both memories lie there in the state m. -/
structure Both (w : World) (b bc r bw bh : Nat) (m : Cells) : Prop where
  p : MemAt w b bc m (countNZ m.ws)
  q : RefMem w r bw bh m
  g : Good m
  e : ErrType w
  ne : (b ≠ r ∧ b ≠ bw ∧ b ≠ bh) ∧ (bc ≠ r ∧ bc ≠ bw ∧ bc ≠ bh) ∧ (0 ≠ b ∧ 0 ≠ bc ∧ 0 ≠ r ∧ 0 ≠ bw ∧ 0 ≠ bh)
section
variable {w w' : World} {b bc r bw bh : Nat} {m m1 : Cells}
theorem Both.drew (h : Both w b bc r bw bh m) : Both w.drew b bc r bw bh m := ⟨h.p.drew, h.q.drew, h.g, h.e, h.ne⟩
theorem Both.kept {F : List Nat} (h : Both w b bc r bw bh m) (ho : Only F w w') (h0 : b ∉ F) (h1 : bc ∉ F) (h2 : r ∉ F) (h3 : bw ∉ F) (h4 : bh ∉ F) (h5 : 0 ∉ F) : Both w' b bc r bw bh m :=
  ⟨h.p.only ho h0 h1, h.q.only ho h2 h3 h4, h.g, errType_only ho h5 h.e, h.ne⟩
theorem Both.below (h : Both w b bc r bw bh m) (hb : Below w.heap.size w w') : Both w' b bc r bw bh m := h.kept (F := []) (Only.of_below hb) (by simp) (by simp) (by simp) (by simp) (by simp) (by simp)
theorem Both.ofP (h : Both w b bc r bw bh m) (ho : Only [b, bc] w w') : RefMem w' r bw bh m ∧ ErrType w' := by
  obtain ⟨⟨n1, n2, n3⟩, ⟨n4, n5, n6⟩, n7, n8, n9, n10, n11⟩ := h.ne
  exact ⟨h.q.only ho (by simp; exact ⟨Ne.symm n1, Ne.symm n4⟩) (by simp; exact ⟨Ne.symm n2, Ne.symm n5⟩) (by simp; exact ⟨Ne.symm n3, Ne.symm n6⟩), errType_only ho (by simp; exact ⟨n7, n8⟩) h.e⟩
theorem Both.ofR (h : Both w b bc r bw bh m) (ho : Only [r, bw, bh] w w') : MemAt w' b bc m (countNZ m.ws) ∧ ErrType w' := by
  obtain ⟨⟨n1, n2, n3⟩, ⟨n4, n5, n6⟩, n7, n8, n9, n10, n11⟩ := h.ne
  exact ⟨h.p.only ho (by simp; exact ⟨n1, n2, n3⟩) (by simp; exact ⟨n4, n5, n6⟩), errType_only ho (by simp; exact ⟨n9, n10, n11⟩) h.e⟩
end

/-- The blocks of both. -/
abbrev allB (b bc r bw bh : Nat) : List Nat := [b, bc, r, bw, bh]
/-- A call of the program's, the like call of the document's behind it, and Same of what they return. -/
def PairA (fP : FuncId) (aP : Array Value) (fR : FuncId) (aR : Array Value) (F : List Nat) (W : World) (Post : World → Prop) : Prop :=
  Calls Tryd.prog fP aP W fun e w1 => ∃ EV, e = .returned EV ∧ Only F W w1 ∧ Hid (Calls Tryd.prog fR aR w1 fun e w2 => ∃ FV, e = .returned FV ∧ Only F W w2 ∧
    Hid (Calls Tryd.prog 13 #[EV, FV] w2 fun e w3 => e = .returned (.bool true) ∧ Post w3))
theorem PairA.calls {fP : FuncId} {aP : Array Value} {fR : FuncId} {aR : Array Value} {F : List Nat} {W : World} {Post : World → Prop} (h : PairA fP aP fR aR F W Post) : Calls Tryd.prog fP aP W fun e w1 => ∃ EV, e = .returned EV ∧ Only F W w1 ∧ Hid (Calls Tryd.prog fR aR w1 fun e w2 => ∃ FV, e = .returned FV ∧ Only F W w2 ∧
    Hid (Calls Tryd.prog 13 #[EV, FV] w2 fun e w3 => e = .returned (.bool true) ∧ Post w3)) := h
/-- The document's first. -/
def PairB (fP : FuncId) (aP : Array Value) (fR : FuncId) (aR : Array Value) (F : List Nat) (W : World) (Post : World → Prop) : Prop :=
  Calls Tryd.prog fR aR W fun e w1 => ∃ FV, e = .returned FV ∧ Only F W w1 ∧ Hid (Calls Tryd.prog fP aP w1 fun e w2 => ∃ EV, e = .returned EV ∧ Only F W w2 ∧
    Hid (Calls Tryd.prog 13 #[EV, FV] w2 fun e w3 => e = .returned (.bool true) ∧ Post w3))
theorem PairB.calls {fP : FuncId} {aP : Array Value} {fR : FuncId} {aR : Array Value} {F : List Nat} {W : World} {Post : World → Prop} (h : PairB fP aP fR aR F W Post) : Calls Tryd.prog fR aR W fun e w1 => ∃ FV, e = .returned FV ∧ Only F W w1 ∧ Hid (Calls Tryd.prog fP aP w1 fun e w2 => ∃ EV, e = .returned EV ∧ Only F W w2 ∧
    Hid (Calls Tryd.prog 13 #[EV, FV] w2 fun e w3 => e = .returned (.bool true) ∧ Post w3)) := h

section
variable {W : World} {b bc r bw bh : Nat} {m m1 : Cells} {fP fR : FuncId} {aP aR : Array Value}
theorem pairA_ok (HB : Both W b bc r bw bh m) (g1 : Good m1)
    (hP : ∀ w, MemAt w b bc m (countNZ m.ws) → Calls Tryd.prog fP aP w fun e w' => e = .returned .nilIface ∧ MemAt w' b bc m1 (countNZ m1.ws) ∧ Only [b, bc] w w')
    (hR : ∀ w, RefMem w r bw bh m → Calls Tryd.prog fR aR w fun e w' => e = .returned (.pointer none) ∧ RefMem w' r bw bh m1 ∧ Only [r, bw, bh] w w') :
    PairA fP aP fR aR (allB b bc r bw bh) W fun w' => Both w' b bc r bw bh m1 ∧ Only (allB b bc r bw bh) W w' := by
  refine (hP W HB.p).mono ?_
  rintro e w1 ⟨rfl, p1, o1⟩
  have O1 : Only (allB b bc r bw bh) W w1 := o1.mono (by simp)
  obtain ⟨q1, e1⟩ := HB.ofP o1
  have B1 : Both w1 b bc r bw bh m → True := fun _ => trivial
  refine ⟨_, rfl, O1, Lib.hid ((hR w1 q1).mono ?_)⟩
  rintro e w2 ⟨rfl, q2, o2⟩
  have O2 : Only (allB b bc r bw bh) w1 w2 := o2.mono (by simp)
  obtain ⟨⟨n1, n2, n3⟩, ⟨n4, n5, n6⟩, n7, n8, n9, n10, n11⟩ := HB.ne
  have p2 : MemAt w2 b bc m1 (countNZ m1.ws) := p1.only o2 (by simp; exact ⟨n1, n2, n3⟩) (by simp; exact ⟨n4, n5, n6⟩)
  have e2 : ErrType w2 := errType_only o2 (by simp; exact ⟨n9, n10, n11⟩) e1
  refine ⟨_, rfl, O1.trans O2, Lib.hid ((same_nil w2).mono ?_)⟩
  rintro e w3 ⟨rfl, rfl⟩
  exact ⟨rfl, ⟨p2, q2, g1, e2, HB.ne⟩, O1.trans O2⟩
theorem pairB_ok (HB : Both W b bc r bw bh m) (g1 : Good m1)
    (hP : ∀ w, MemAt w b bc m (countNZ m.ws) → Calls Tryd.prog fP aP w fun e w' => e = .returned .nilIface ∧ MemAt w' b bc m1 (countNZ m1.ws) ∧ Only [b, bc] w w')
    (hR : ∀ w, RefMem w r bw bh m → Calls Tryd.prog fR aR w fun e w' => e = .returned (.pointer none) ∧ RefMem w' r bw bh m1 ∧ Only [r, bw, bh] w w') :
    PairB fP aP fR aR (allB b bc r bw bh) W fun w' => Both w' b bc r bw bh m1 ∧ Only (allB b bc r bw bh) W w' := by
  refine (hR W HB.q).mono ?_
  rintro e w1 ⟨rfl, q1, o1⟩
  have O1 : Only (allB b bc r bw bh) W w1 := o1.mono (by simp)
  obtain ⟨p1, e1⟩ := HB.ofR o1
  refine ⟨_, rfl, O1, Lib.hid ((hP w1 p1).mono ?_)⟩
  rintro e w2 ⟨rfl, p2, o2⟩
  have O2 : Only (allB b bc r bw bh) w1 w2 := o2.mono (by simp)
  obtain ⟨⟨n1, n2, n3⟩, ⟨n4, n5, n6⟩, n7, n8, n9, n10, n11⟩ := HB.ne
  have q2 : RefMem w2 r bw bh m1 := q1.only o2 (by simp; exact ⟨Ne.symm n1, Ne.symm n4⟩) (by simp; exact ⟨Ne.symm n2, Ne.symm n5⟩) (by simp; exact ⟨Ne.symm n3, Ne.symm n6⟩)
  have e2 : ErrType w2 := errType_only o2 (by simp; exact ⟨n7, n8⟩) e1
  refine ⟨_, rfl, O1.trans O2, Lib.hid ((same_nil w2).mono ?_)⟩
  rintro e w3 ⟨rfl, rfl⟩
  exact ⟨rfl, ⟨p2, q2, g1, e2, HB.ne⟩, O1.trans O2⟩
theorem pairA_err (HB : Both W b bc r bw bh m) (n k : Int) (k1 : 1 ≤ k) (k10 : k ≤ 10)
    (hP : ∀ w, MemAt w b bc m (countNZ m.ws) → Calls Tryd.prog fP aP w (FaultPost n k w))
    (hR : ∀ w, RefMem w r bw bh m → Calls Tryd.prog fR aR w (NoPost memS n k w)) :
    PairA fP aP fR aR (allB b bc r bw bh) W fun w' => Both w' b bc r bw bh m ∧ Only (allB b bc r bw bh) W w' := by
  refine (hP W HB.p).mono ?_
  rintro e w1 ⟨rfl, hw1⟩
  have b1 : Below W.heap.size W w1 := by rw [hw1]; exact (Below.refl _ _).alloc (Nat.le_refl _) _
  have E1 : ErrBlk w1 W.heap.size memS n k := by rw [hw1]; exact ErrBlk.new W memS n k
  have B1 := HB.below b1
  clear hw1
  refine ⟨_, rfl, (Only.of_below (F := allB b bc r bw bh) b1), Lib.hid ((hR w1 B1.q).mono ?_)⟩
  rintro e w2 ⟨rfl, hw2⟩
  have b2 : Below w1.heap.size w1 w2 := by rw [hw2]; exact (((Below.refl _ _).alloc (Nat.le_refl _) _).alloc (by simp) _).alloc (by simp; omega) _
  have F2 : FailBlk w2 w1.heap.size memS n k := by rw [hw2]; exact FailBlk.new w1 memS n k
  have E2 : ErrBlk w2 W.heap.size memS n k := E1.only (F := []) (Only.of_below b2) (by simp)
  have B2 := B1.below b2
  clear hw2
  refine ⟨_, rfl, (Only.of_below (F := allB b bc r bw bh) b1).trans (Only.of_below b2), Lib.hid ((same_blk E2 F2 k1 k10 B2.e).mono ?_)⟩
  rintro e w3 ⟨rfl, b3⟩
  exact ⟨rfl, B2.below b3, ((Only.of_below (F := allB b bc r bw bh) b1).trans (Only.of_below b2)).trans (Only.of_below b3)⟩
theorem pairB_err (HB : Both W b bc r bw bh m) (n k : Int) (k1 : 1 ≤ k) (k10 : k ≤ 10)
    (hP : ∀ w, MemAt w b bc m (countNZ m.ws) → Calls Tryd.prog fP aP w (FaultPost n k w))
    (hR : ∀ w, RefMem w r bw bh m → Calls Tryd.prog fR aR w (NoPost memS n k w)) :
    PairB fP aP fR aR (allB b bc r bw bh) W fun w' => Both w' b bc r bw bh m ∧ Only (allB b bc r bw bh) W w' := by
  refine (hR W HB.q).mono ?_
  rintro e w1 ⟨rfl, hw1⟩
  have b1 : Below W.heap.size W w1 := by rw [hw1]; exact (((Below.refl _ _).alloc (Nat.le_refl _) _).alloc (by simp) _).alloc (by simp; omega) _
  have F1 : FailBlk w1 W.heap.size memS n k := by rw [hw1]; exact FailBlk.new W memS n k
  have B1 := HB.below b1
  clear hw1
  refine ⟨_, rfl, (Only.of_below (F := allB b bc r bw bh) b1), Lib.hid ((hP w1 B1.p).mono ?_)⟩
  rintro e w2 ⟨rfl, hw2⟩
  have b2 : Below w1.heap.size w1 w2 := by rw [hw2]; exact (Below.refl _ _).alloc (Nat.le_refl _) _
  have E2 : ErrBlk w2 w1.heap.size memS n k := by rw [hw2]; exact ErrBlk.new w1 memS n k
  have F2 : FailBlk w2 W.heap.size memS n k := F1.only (F := []) (Only.of_below b2) (by simp) (by simp) (by simp)
  have B2 := B1.below b2
  clear hw2
  refine ⟨_, rfl, (Only.of_below (F := allB b bc r bw bh) b1).trans (Only.of_below b2), Lib.hid ((same_blk E2 F2 k1 k10 B2.e).mono ?_)⟩
  rintro e w3 ⟨rfl, b3⟩
  exact ⟨rfl, B2.below b3, ((Only.of_below (F := allB b bc r bw bh) b1).trans (Only.of_below b2)).trans (Only.of_below b3)⟩
end

/-- Both orders. -/
def PairAB (fP : FuncId) (aP : Array Value) (fR : FuncId) (aR : Array Value) (b bc r bw bh : Nat) (m1 : Cells) (W : World) : Prop :=
  PairA fP aP fR aR (allB b bc r bw bh) W (fun w' => Both w' b bc r bw bh m1 ∧ Only (allB b bc r bw bh) W w') ∧ PairB fP aP fR aR (allB b bc r bw bh) W (fun w' => Both w' b bc r bw bh m1 ∧ Only (allB b bc r bw bh) W w')
theorem fill_count (m : Cells) (a c : Nat) (k : Int) (hk : k ≠ 0) (hac : a + c ≤ m.ws.length) (hf : firstNZ m.ws a c = none) : countNZ m.ws + (c : Int) = countNZ (fillIn k m.ws a c) := (count_mapped k hk c m.ws a hac hf).symm
/-- Map at both. -/
theorem pair_map {W : World} {b bc r bw bh : Nat} {m : Cells} (HB : Both W b bc r bw bh m) (a n k : Int) (a0 : -9223372036854775808 ≤ a) (a1 : a ≤ 9223372036854775807) (n1 : n ≤ 9223372036854775807) :
    ∃ m1, Good m1 ∧ m1.ws.length = m.ws.length ∧ m1.n = m.n ∧ PairAB 17 #[.pointer (some ⟨b, 0, none⟩), .int .i64 a, .int .i64 n, .int .i64 k] 20 #[.pointer (some ⟨r, 0, none⟩), .int .i64 a, .int .i64 n, .int .i64 k] b bc r bw bh m1 W := by
  have g := HB.g
  by_cases hn : n < 1 ∨ ¬ (k = 64 ∨ k = 32)
  · exact ⟨m, g, rfl, rfl, pairA_err HB 0 1 (by omega) (by omega) (fun w _ => memMap_arg _ a n k hn w) (fun w _ => refMap_arg _ a n k hn w), pairB_err HB 0 1 (by omega) (by omega) (fun w _ => memMap_arg _ a n k hn w) (fun w _ => refMap_arg _ a n k hn w)⟩
  · have hn1 : 1 ≤ n := by omega
    have hk : k = 64 ∨ k = 32 := by omega
    by_cases hin : a < 0 ∨ (m.ws.length : Int) - a < n
    · have hin2 : inside m.ws.length a n = false := by
        simp only [inside]
        by_cases h0 : 0 ≤ a
        · by_cases h1 : n ≤ (m.ws.length : Int)
          · simp [h0, h1]; omega
          · simp [h1]
        · simp [h0]
      have hP := fun w h => memMap_addr (w := w) (b := b) (bc := bc) (m := m) (t := countNZ m.ws) h g.small a n k hn1 n1 a1 hk hin
      have hR := fun w h => refMap_addr (w := w) (b := r) (bw := bw) (bh := bh) (m := m) h g.small a n k hn1 hk hin2
      exact ⟨m, g, rfl, rfl, pairA_err HB a 2 (by omega) (by omega) hP hR, pairB_err HB a 2 (by omega) (by omega) hP hR⟩
    · obtain ⟨a', rfl⟩ : ∃ x : Nat, a = x := ⟨a.toNat, by omega⟩
      obtain ⟨c, rfl⟩ : ∃ x : Nat, n = x := ⟨n.toNat, by omega⟩
      have hac : a' + c ≤ m.ws.length := by omega
      have hc : 1 ≤ c := by omega
      cases hf : firstNZ m.ws a' c with
      | some i0 =>
        have hP := fun w h => memMap_block (w := w) (b := b) (bc := bc) (m := m) (t := countNZ m.ws) h g.small a' c k hc hac hk i0 hf
        have hR := fun w h => refMap_block (w := w) (b := r) (bw := bw) (bh := bh) (m := m) h g.small a' c k hc hac hk i0 hf
        exact ⟨m, g, rfl, rfl, pairA_err HB i0 4 (by omega) (by omega) hP hR, pairB_err HB i0 4 (by omega) (by omega) hP hR⟩
      | none =>
        have cb := countNZ_bounds m.ws
        have hs := g.small
        have hk0 : k ≠ 0 := by omega
        have g1 : Good { ws := fillIn k m.ws a' c, hs := fillIn 0 m.hs a' c, n := m.n } := g.fill hac (by omega)
        have hP := fun w h => memMap_done (w := w) (b := b) (bc := bc) (m := m) (t := countNZ m.ws) h g.small a' c k hc hac hk hf cb.1 (by omega)
        rw [fill_count m a' c k hk0 hac hf] at hP
        have hR : ∀ w, RefMem w r bw bh m → Calls Tryd.prog 20 #[.pointer (some ⟨r, 0, none⟩), .int .i64 a', .int .i64 c, .int .i64 k] w fun e w' => e = .returned (.pointer none) ∧
            RefMem w' r bw bh { ws := fillIn k m.ws a' c, hs := fillIn 0 m.hs a' c, n := m.n } ∧ Only [r, bw, bh] w w' := by
          intro w h
          rcases hk with rfl | rfl
          · exact (refMap_done64 h g.small a' c hc hac hf).mono fun e w' ⟨x, y, z⟩ => ⟨x, y, z.mono (by simp)⟩
          · exact (refMap_done32 h g.small a' c hc hac hf).mono fun e w' ⟨x, y, z⟩ => ⟨x, y, z.mono (by simp)⟩
        exact ⟨_, g1, fillIn_length _ _ _ _, rfl, pairA_ok HB g1 hP hR, pairB_ok HB g1 hP hR⟩
/-- Unmap at both. -/
theorem pair_unmap {W : World} {b bc r bw bh : Nat} {m : Cells} (HB : Both W b bc r bw bh m) (a n : Int) (a0 : -9223372036854775808 ≤ a) (a1 : a ≤ 9223372036854775807) (n1 : n ≤ 9223372036854775807) :
    ∃ m1, Good m1 ∧ m1.ws.length = m.ws.length ∧ m1.n = m.n ∧ PairAB 23 #[.pointer (some ⟨b, 0, none⟩), .int .i64 a, .int .i64 n] 25 #[.pointer (some ⟨r, 0, none⟩), .int .i64 a, .int .i64 n] b bc r bw bh m1 W := by
  have g := HB.g
  by_cases hn : n < 1
  · exact ⟨m, g, rfl, rfl, pairA_err HB 0 1 (by omega) (by omega) (fun w _ => memUnmap_arg _ a n hn w) (fun w _ => refUnmap_arg _ a n hn w), pairB_err HB 0 1 (by omega) (by omega) (fun w _ => memUnmap_arg _ a n hn w) (fun w _ => refUnmap_arg _ a n hn w)⟩
  · have hn1 : 1 ≤ n := by omega
    by_cases hin : a < 0 ∨ (m.ws.length : Int) - a < n
    · have hin2 : inside m.ws.length a n = false := by
        simp only [inside]
        by_cases h0 : 0 ≤ a
        · by_cases h1 : n ≤ (m.ws.length : Int)
          · simp [h0, h1]; omega
          · simp [h1]
        · simp [h0]
      have hP := fun w h => memUnmap_addr (w := w) (b := b) (bc := bc) (m := m) (t := countNZ m.ws) h g.small a n hn1 n1 a1 hin
      have hR := fun w h => refUnmap_addr (w := w) (b := r) (bw := bw) (bh := bh) (m := m) h g.small a n hn1 hin2
      exact ⟨m, g, rfl, rfl, pairA_err HB a 2 (by omega) (by omega) hP hR, pairB_err HB a 2 (by omega) (by omega) hP hR⟩
    · obtain ⟨a', rfl⟩ : ∃ x : Nat, a = x := ⟨a.toNat, by omega⟩
      obtain ⟨c, rfl⟩ : ∃ x : Nat, n = x := ⟨n.toNat, by omega⟩
      have hac : a' + c ≤ m.ws.length := by omega
      have hc : 1 ≤ c := by omega
      cases hf : firstZ m.ws a' c with
      | some i0 =>
        have hP := fun w h => memUnmap_block (w := w) (b := b) (bc := bc) (m := m) (t := countNZ m.ws) h g.small a' c hc hac i0 hf
        have hR := fun w h => refUnmap_block (w := w) (b := r) (bw := bw) (bh := bh) (m := m) h g.small a' c hc hac i0 hf
        exact ⟨m, g, rfl, rfl, pairA_err HB i0 4 (by omega) (by omega) hP hR, pairB_err HB i0 4 (by omega) (by omega) hP hR⟩
      | none =>
        have cb := countNZ_bounds m.ws
        have hs := g.small
        have g1 : Good { ws := fillIn 0 m.ws a' c, hs := fillIn 0 m.hs a' c, n := m.n } := g.fill hac (Or.inl rfl)
        have hP := fun w h => memUnmap_done (w := w) (b := b) (bc := bc) (m := m) (t := countNZ m.ws) h g.small a' c hc hac hf cb.1 (by omega)
        rw [show countNZ m.ws - (c : Int) = countNZ (fillIn 0 m.ws a' c) from (count_unmapped c m.ws a' hac hf).symm] at hP
        have hR : ∀ w, RefMem w r bw bh m → Calls Tryd.prog 25 #[.pointer (some ⟨r, 0, none⟩), .int .i64 a', .int .i64 c] w fun e w' => e = .returned (.pointer none) ∧
            RefMem w' r bw bh { ws := fillIn 0 m.ws a' c, hs := fillIn 0 m.hs a' c, n := m.n } ∧ Only [r, bw, bh] w w' :=
          fun w h => (refUnmap_done h g.small a' c hc hac hf).mono fun e w' ⟨x, y, z⟩ => ⟨x, y, z.mono (by simp)⟩
        exact ⟨_, g1, fillIn_length _ _ _ _, rfl, pairA_ok HB g1 hP hR, pairB_ok HB g1 hP hR⟩
end Go.Proofs.YtdnamjlknmcdjaaDoor
