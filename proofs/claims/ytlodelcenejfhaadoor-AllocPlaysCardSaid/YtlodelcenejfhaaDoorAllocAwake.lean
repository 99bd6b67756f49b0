/- The statements' helps of layer 3: contracts of room (a memory of 100 cells and its blocks) and of awake (the document's example: it answers true). The condition: the library's variable errors.errorType holds the type error. -/
import Derived.Test.YtlodelcenejfhaaDoorAllocHeld
import Derived.Test.YtlodelcenejfhaaDoorMemNew
namespace Go.Proofs.YtlodelcenejfhaaDoor
open Go.RowKit Go.Shelf
set_option linter.unusedVariables false

theorem only_below {w w' : World} {a mb mc B N : Nat} {v : Value} (ho : Only (a :: mb :: mc :: v.ownBlock.toList) w w') (hv : ∀ k, v.ownBlock = some k → B ≤ k ∧ k < w.heap.size) (h1 : N ≤ a) (h2 : N ≤ mb) (h3 : N ≤ mc) (h4 : N ≤ B) (h5 : N ≤ w.heap.size) : Below N w w' :=
  ho.below (fun k hk => by
    simp only [List.mem_cons] at hk
    rcases hk with rfl | rfl | rfl | hk
    · exact h1
    · exact h2
    · exact h3
    · have := (hv k (by simpa using hk)).1; omega) h5
theorem errType_kept {w w' : World} {N : Nat} (h : ErrType w) (hb : Below N w w') (hN : 0 < N) : ErrType w' := by
  unfold ErrType at *
  rw [World.cell?_of_block (w := w) (w' := w') (a := ⟨0, 0, none⟩) (hb.block _ hN)]; exact h

/-- What room leaves. -/
def RoomPost (w : World) (e : Ending) (w' : World) : Prop := ∃ a mb mc B m, e = .returned (.tuple #[.pointer (some ⟨mb, 0, none⟩), .pointer (some ⟨a, 0, none⟩)]) ∧ Rm w' a mb mc B (.slice none 0 0) [] m ∧ m.ws.length = 100 ∧ Below w.heap.size w w' ∧ w.heap.size ≤ a ∧ w.heap.size ≤ mb ∧ w.heap.size ≤ mc ∧ w.heap.size ≤ B
theorem roomPost_of {w w1 : World} {b bc : Nat} (hm : MemAt w1 b bc { ws := List.replicate 100 0, hs := List.replicate 100 0, n := 0 } 0) (hb : Below w.heap.size w w1) (h1 : w.heap.size ≤ b) (h2 : w.heap.size ≤ bc) :
    RoomPost w (.returned (.tuple #[.pointer (some ⟨b, 0, none⟩), .pointer (some ⟨w1.heap.size, 0, none⟩)])) (w1.alloc (.cells #[.pointer (some ⟨b, 0, none⟩), .int .i64 0, .int .i64 100, .slice none 0 0] 81)) := by
  have hm2 := hm.alloc (.cells #[.pointer (some ⟨b, 0, none⟩), .int .i64 0, .int .i64 100, .slice none 0 0] 81)
  have hbl := hm.top.lt
  have hbc := hm.lt
  have hsz := hb.size
  refine ⟨w1.heap.size, b, bc, w1.heap.size + 1, { ws := List.replicate 100 0, hs := List.replicate 100 0, n := 0 }, rfl, ⟨⟨AllocAt.new w1 b _ 0 100, hm2, Good.fresh 100 (by omega), by omega, by omega, by omega, by omega, by omega, by simp, by simp [Chain], by omega, by simp⟩, fun i => ?_, by simp⟩, by simp, hb.alloc hsz _, hsz, h1, h2, by omega⟩
  show (List.replicate 100 (0 : Int)).getD i 0 = _
  rw [getD_rep]; rfl
set_option maxHeartbeats 1000000 in
theorem room_law (w : World) : Calls Tryd.prog 32 #[] w (RoomPost w) := by
  have NW := Lib.hid (memNew 100 (by omega) (by omega) w)
  go_enter Tryd.func32, Tryd.ntmps32
  go_wp2_with fail
  go_at_call 11
  refine NW.out.mono ?_
  rintro e w1 ⟨b, bc, rfl, hm, hb, hb1, hb2⟩
  have FIN := Lib.hid (roomPost_of hm hb hb1 hb2)
  have AN := Lib.hid (allocNew b 0 100 (by omega) (by omega) w1)
  clear hm hb hb1 hb2
  go_wp2_with fail
  go_at_call 13
  refine AN.out.mono ?_
  rintro e w2 ⟨rfl, rfl⟩
  go_wp2_with fail
  go_ret2
  exact FIN.out

/-! ### The document's example -/
abbrev em0 : Cells := { ws := List.replicate 40 0, hs := List.replicate 40 0, n := 0 }
abbrev em1 : Cells := { ws := fillIn 64 (List.replicate 40 0) 10 4, hs := fillIn 0 (List.replicate 40 0) 10 4, n := 0 }
abbrev em2 : Cells := { ws := fillIn 32 em1.ws 14 6, hs := fillIn 0 em1.hs 14 6, n := 0 }
abbrev em3 : Cells := { ws := fillIn 0 em2.ws 10 4, hs := fillIn 0 em2.hs 10 4, n := 0 }
abbrev eL1 : List Blk := [⟨10, 4, 64⟩]
abbrev eL2 : List Blk := [⟨10, 4, 64⟩, ⟨14, 6, 32⟩]
abbrev eL3 : List Blk := [⟨14, 6, 32⟩]
section
variable {w : World} {a mb mc B : Nat} {v : Value}
theorem ex_get1 (h : Alc w a mb mc B 10 20 v [] em0 0) : Calls Tryd.prog 22 #[.pointer (some ⟨a, 0, none⟩), .int .i64 4, .int .i64 64] w fun en w' => en = .returned (.tuple #[.int .i64 10, .nilIface]) ∧ ∃ v', Alc w' a mb mc B 10 20 v' eL1 em1 4 ∧ (∀ j, v'.ownBlock = some j → v.ownBlock = some j ∨ w.heap.size ≤ j) ∧ Only (a :: mb :: mc :: v.ownBlock.toList) w w' :=
  (get_done h 10 4 64 (by omega) (by omega) (Or.inl rfl) (by kernel_rfl) (of_decide_eq_true (by kernel_rfl)) (by kernel_rfl) (by omega) (by omega)).mono fun en w' ⟨v', h1, h2, h3, h4⟩ => ⟨h1, v', h2, h3, h4⟩
theorem ex_get2 (h : Alc w a mb mc B 10 20 v eL1 em1 4) : Calls Tryd.prog 22 #[.pointer (some ⟨a, 0, none⟩), .int .i64 6, .int .i64 32] w fun en w' => en = .returned (.tuple #[.int .i64 14, .nilIface]) ∧ ∃ v', Alc w' a mb mc B 10 20 v' eL2 em2 10 ∧ (∀ j, v'.ownBlock = some j → v.ownBlock = some j ∨ w.heap.size ≤ j) ∧ Only (a :: mb :: mc :: v.ownBlock.toList) w w' :=
  (get_done h 14 6 32 (by omega) (by omega) (Or.inr rfl) (by kernel_rfl) (of_decide_eq_true (by kernel_rfl)) (by kernel_rfl) (by omega) (by omega)).mono fun en w' ⟨v', h1, h2, h3, h4⟩ => ⟨h1, v', h2, h3, h4⟩
theorem ex_get3 (h : Alc w a mb mc B 10 20 v eL2 em2 10) : Calls Tryd.prog 22 #[.pointer (some ⟨a, 0, none⟩), .int .i64 1, .int .i64 64] w (GetBad 0 3 w) :=
  get_room h 1 64 (by omega) (by omega) (Or.inl rfl) (by kernel_rfl)
theorem ex_put (h : Alc w a mb mc B 10 20 v eL2 em2 10) : Calls Tryd.prog 16 #[.pointer (some ⟨a, 0, none⟩), .int .i64 10] w fun en w' => en = .returned .nilIface ∧ ∃ v', Alc w' a mb mc B 10 20 v' eL3 em3 6 ∧ (∀ j, v'.ownBlock = some j → v.ownBlock = some j ∨ w.heap.size ≤ j) ∧ Only (a :: mb :: mc :: v.ownBlock.toList) w w' :=
  (put_done h 10 4 0 (by simp) rfl rfl (by omega) (of_decide_eq_true (by kernel_rfl)) (by kernel_rfl) (by omega) (by omega)).mono fun en w' ⟨v', h1, h2, h3, h4⟩ => ⟨h1, v', h2, h3, h4⟩
theorem ex_get4 (h : Alc w a mb mc B 10 20 v eL3 em3 6) : Calls Tryd.prog 22 #[.pointer (some ⟨a, 0, none⟩), .int .i64 2, .int .i64 64] w fun en w' => en = .returned (.tuple #[.int .i64 10, .nilIface]) ∧ Only (a :: mb :: mc :: v.ownBlock.toList) w w' :=
  (get_done h 10 2 64 (by omega) (by omega) (Or.inl rfl) (by kernel_rfl) (of_decide_eq_true (by kernel_rfl)) (by kernel_rfl) (by omega) (by omega)).mono fun en w' ⟨v', h1, h2, h3, h4⟩ => ⟨h1, h4⟩
end

/-- The alloc that refused, its error, and what comes behind it. -/
theorem errBlk_only {F : List Nat} {w w' : World} {x : Nat} {y : ByteArray} {n k : Int} (h : ErrBlk w x y n k) (ho : Only F w w') (hx : x ∉ F) : ErrBlk w' x y n k := h.only ho hx

set_option maxHeartbeats 4000000 in
set_option maxRecDepth 100000 in
theorem awake_any (w : World) (hE : ErrType w) : Calls Tryd.prog 27 #[] w fun e w' => e = .returned (.bool true) ∧ Below w.heap.size w w' := by
  have hel := cell_lt hE
  have NW := Lib.hid (memNew 40 (by omega) (by omega) w)
  go_enter Tryd.func27, Tryd.ntmps27
  go_wp2_with fail
  go_at_call 11
  refine NW.out.mono ?_
  rintro e w1 ⟨mb, mc, rfl, hm, hb1, hx1, hx2⟩
  have AN := Lib.hid (allocNew mb 10 20 (by omega) (by omega) w1)
  have sz1 := hb1.size
  have hA2 : Alc (w1.alloc (.cells #[.pointer (some ⟨mb, 0, none⟩), .int .i64 10, .int .i64 20, .slice none 0 0] 81)) w1.heap.size mb mc (w1.heap.size + 1) 10 20 (.slice none 0 0) [] em0 0 := by
    have hbl := hm.top.lt
    have hbc := hm.lt
    exact ⟨AllocAt.new w1 mb _ 10 20, hm.alloc _, Good.fresh 40 (by omega), by omega, by omega, by omega, by omega, by omega, by simp, by simp [Chain], by omega, by omega⟩
  have hb2 : Below w.heap.size w (w1.alloc (.cells #[.pointer (some ⟨mb, 0, none⟩), .int .i64 10, .int .i64 20, .slice none 0 0] 81)) := hb1.alloc sz1 _
  obtain ⟨a, ha⟩ : ∃ a, a = w1.heap.size := ⟨_, rfl⟩
  have han : w.heap.size ≤ a := by omega
  have A2 := Lib.hid hA2
  have B2 := Lib.hid hb2
  clear hm hb1 hA2 hb2
  go_wp2_with fail
  go_at_call 13
  refine AN.out.mono ?_
  rintro e w2 ⟨rfl, hw2⟩
  have A2' := A2.out
  have B2' := B2.out
  rw [← hw2] at A2' B2'
  rw [← ha] at A2' ⊢
  have A := Lib.hid A2'
  have BL := Lib.hid B2'
  clear hw2 AN A2 B2 A2' B2' ha sz1
  go_wp2_with fail
  go_at_call 22
  refine (ex_get1 A.out).mono ?_
  rintro e w3 ⟨rfl, v3, hA, hj, ho⟩
  have A3 := Lib.hid hA
  have B3 := Lib.hid (BL.out.trans (only_below ho A.out.own han hx1 hx2 (by omega) BL.out.size))
  clear hA hj ho
  go_wp2_with fail
  go_at_call 22
  refine (ex_get2 A3.out).mono ?_
  rintro e w4 ⟨rfl, v4, hA, hj, ho⟩
  have A4 := Lib.hid hA
  have B4 := Lib.hid (B3.out.trans (only_below ho A3.out.own han hx1 hx2 (by omega) B3.out.size))
  clear hA hj ho
  go_wp2_with fail
  go_at_call 22
  refine (ex_get3 A4.out).mono ?_
  rintro e w5 ⟨x, rfl, hx, hxs, hb⟩
  have A5 := Lib.hid (A4.out.below hb)
  have X5 := Lib.hid hx
  have B5 := Lib.hid (B4.out.trans (hb.mono B4.out.size))
  have hxl := heap_lt hx
  have hxo : ∀ k, v4.ownBlock = some k → k ≠ x := fun k hk => by have := (A4.out.own k hk).2; omega
  have hxa : a ≠ x := by have := A4.out.ha; have := A4.out.hB; omega
  have hxb : mb ≠ x := by have := A4.out.hmb; have := A4.out.hB; omega
  have hxc : mc ≠ x := by have := A4.out.hmc; have := A4.out.hB; omega
  have HXO := Lib.hid hxo
  clear hx hb hxo
  go_wp2_with fail
  go_at_call 16
  refine (ex_put A5.out).mono ?_
  rintro e w6 ⟨rfl, v6, hA, hj, ho⟩
  have A6 := Lib.hid hA
  have B6 := Lib.hid (B5.out.trans (only_below ho A5.out.own han hx1 hx2 (by omega) B5.out.size))
  have X6 := Lib.hid (X5.out.only ho (by
    simp only [List.mem_cons, not_or]
    exact ⟨Ne.symm hxa, Ne.symm hxb, Ne.symm hxc, fun hm => HXO.out x (by simpa using hm) rfl⟩))
  have HXO6 := Lib.hid (show ∀ k, v6.ownBlock = some k → k ≠ x from fun k hk => by
    rcases hj k hk with h1 | h1
    · exact HXO.out k h1
    · omega)
  clear hA hj ho
  go_wp2_with fail
  go_at_call 22
  refine (ex_get4 A6.out).mono ?_
  rintro e w7 ⟨rfl, ho⟩
  have B7 := Lib.hid (B6.out.trans (only_below ho A6.out.own han hx1 hx2 (by omega) B6.out.size))
  have X7 := Lib.hid (X6.out.only ho (by
    simp only [List.mem_cons, not_or]
    exact ⟨Ne.symm hxa, Ne.symm hxb, Ne.symm hxc, fun hm => HXO6.out x (by simpa using hm) rfl⟩))
  have E7 := Lib.hid (errType_kept hE B7.out hel)
  clear ho
  have NN := Lib.hid (no_any allocS 0 3 w7)
  go_wp2_with fail
  go_at_call 28
  refine NN.out.mono ?_
  rintro e w8 ⟨rfl, hw8⟩
  have b8 : Below w7.heap.size w7 w8 := by rw [hw8]; exact (((Below.refl _ _).alloc (Nat.le_refl _) _).alloc (by simp) _).alloc (by simp; omega) _
  have F8 : FailBlk w8 w7.heap.size allocS 0 3 := by rw [hw8]; exact FailBlk.new w7 allocS 0 3
  have SM := Lib.hid (same_blk (X7.out.only (F := []) (Only.of_below b8) (by simp)) F8 (by omega) (by omega) (errType_below b8 E7.out (cell_lt E7.out)))
  have B8 := Lib.hid (B7.out.trans (b8.mono B7.out.size))
  clear hw8 b8 F8
  go_wp2_with fail
  go_at_call 15
  refine SM.out.mono ?_
  rintro e w9 ⟨rfl, b9⟩
  have B9 := Lib.hid (B8.out.trans (b9.mono B8.out.size))
  clear b9
  go_wp2_with fail
  go_ret
  exact ⟨rfl, B9.out⟩
end Go.Proofs.YtlodelcenejfhaaDoor
