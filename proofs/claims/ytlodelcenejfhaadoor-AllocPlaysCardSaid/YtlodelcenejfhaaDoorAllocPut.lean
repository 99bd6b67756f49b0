/- The program's blocks of cells (layer 3): contracts of Put: an error, or how the blocks and the memory lie behind it. The conditions: the blocks lie there over their memory. -/
import Derived.Test.YtlodelcenejfhaaDoorAllocGet2
namespace Go.Proofs.YtlodelcenejfhaaDoor
open Go.RowKit Go.Shelf
set_option linter.unusedVariables false

/-- What Put leaves where it refuses. -/
def PutBad (n k : Int) (w : World) (e : Ending) (w' : World) : Prop := ∃ x, e = .returned (.iface 89 (.pointer (some ⟨x, 0, none⟩))) ∧ ErrBlk w' x allocS n k ∧ w.heap.size ≤ x ∧ Below w.heap.size w w'
/-- What Put leaves where it gives cells back. -/
def PutDone (a mb mc B : Nat) (frm e : Int) (v : Value) (L : List Blk) (m : Cells) (t : Int) (p n : Nat) (w : World) (en : Ending) (w' : World) : Prop := ∃ v', en = .returned .nilIface ∧
  Alc w' a mb mc B frm e v' (takeOut p L) { ws := fillIn 0 m.ws p n, hs := fillIn 0 m.hs p n, n := m.n } (t - n) ∧ (∀ j, v'.ownBlock = some j → v.ownBlock = some j ∨ w.heap.size ≤ j) ∧ Only (a :: mb :: mc :: v.ownBlock.toList) w w'

section
variable {w : World} {a mb mc B : Nat} {frm e : Int} {v : Value} {L : List Blk} {m : Cells} {t : Int}
set_option maxHeartbeats 1000000 in
theorem put_none (h : Alc w a mb mc B frm e v L m t) (x : Int) (hn : ∀ j, j < L.length → (L.getD j blk0).p ≠ x) :
    Calls Tryd.prog 16 #[.pointer (some ⟨a, 0, none⟩), .int .i64 x] w (PutBad x 4 w) := by
  have FD := Lib.hid (show Calls Tryd.prog 38 #[.pointer (some ⟨a, 0, none⟩), .int .i64 x] w fun en w' => ∃ i : Nat, en = .returned (.tuple #[.int .i64 i, .bool false]) ∧ Below w.heap.size w w' from (h.find x).mono (by
    rintro en w' ⟨i, hi, rfl, hb⟩
    refine ⟨i, ?_, hb⟩
    rw [decide_eq_false (fun hx => hn i hx.1 hx.2)]))
  have FA := Lib.hid (fun W => afault_any x 57 (.int .i64 4) W)
  clear h hn
  go_enter Tryd.func16, Tryd.ntmps16
  go_wp2_with fail
  go_at_call 38
  refine FD.out.mono ?_
  rintro en w1 ⟨i, rfl, hb⟩
  go_wp2_with (go_at_call 35; refine (FA.out _).mono ?_; rintro e w' ⟨rfl, rfl⟩)
  go_ret
  exact ⟨_, rfl, ErrBlk.new _ _ _ _, hb.size, hb.alloc hb.size _⟩

theorem place_is {L : List Blk} {x : Int} {i j : Nat} (hi : PlaceOf L x i) (hC : ∀ s t, s < t → t < L.length → (L.getD s blk0).p < (L.getD t blk0).p) (hj : j < L.length) (hx : (L.getD j blk0).p = x) : i = j := by
  have h1 : ¬ j < i := fun h => by have := hi.lo j h; omega
  have h2 : ¬ i < j := fun h => by have := hC i j h hj; have := hi.hi i (Nat.le_refl _) (by omega); omega
  omega

theorem putDone_of (h : Alc w a mb mc B frm e v L m t) (p n j : Nat) (hj : j < L.length) (hp : (L.getD j blk0).p = (p : Int)) (h1 : 1 ≤ n) (hin : p + n ≤ m.ws.length)
    {w1 w2 w4 : World} {v' : Value} (b1 : Below w.heap.size w w1) (hr : w2.ownsRow B 65 3 v' (L.take j ++ L.drop (j + 1)).length (flat (L.take j ++ L.drop (j + 1)))) (hv : ∀ k, v'.ownBlock = some k → v.ownBlock = some k ∨ w1.heap.size ≤ k)
    (o2 : Only v.ownBlock.toList w1 w2) (m4 : MemAt w4 mb mc { ws := fillIn 0 m.ws p n, hs := fillIn 0 m.hs p n, n := m.n } (t - n)) (o4 : Only [mb, mc] (w2.setCell ⟨a, 3, none⟩ v') w4) :
    PutDone a mb mc B frm e v L m t p n w (.returned .nilIface) w4 := by
  have hout : takeOut (p : Int) L = L.take j ++ L.drop (j + 1) := takeOut_at _ L j hj (fun i hi hx => by
    have := (h.ch.up j hj).2.2.2 i hi
    have := (h.ch.up i (by omega)).2.1
    omega) hp
  have hw0 := h.al.top.lt
  have hmb := h.me.top.lt
  have hmc := h.me.lt
  have hown := h.own
  have hB := h.hB
  have s1 := b1.size
  have s2 := o2.size
  have s4 : w2.heap.size ≤ w4.heap.size := by have := o4.size; simpa [World.setCell] using this
  have hvo : ∀ k, k ∈ v.ownBlock.toList → B ≤ k ∧ k < w.heap.size := fun k hk => hown k (by simpa using hk)
  have o02 : Only v.ownBlock.toList w w2 := (Only.of_below b1).trans o2
  have t2 : Row w2 a [.pointer (some ⟨mb, 0, none⟩), .int .i64 frm, .int .i64 e, v] := h.al.top.only o02 (fun hx => by have := hvo _ hx; have := h.ha; omega)
  have t3 := t2.set 3 (by simp) v'
  have t4 : Row w4 a [.pointer (some ⟨mb, 0, none⟩), .int .i64 frm, .int .i64 e, v'] := by
    have := t3.only o4 (by have := h.n1; have := h.n2; simp; omega)
    simpa using this
  have hrlt := hr.lt
  have r4 : w4.ownsRow B 65 3 v' (L.take j ++ L.drop (j + 1)).length (flat (L.take j ++ L.drop (j + 1))) :=
    ownsRow_only (ownsRow_only hr ((Only.refl [a] w2).setCell (Or.inl (by simp)) v') (fun k hk => by have := (hrlt k hk).1; have := h.ha; simp; omega)) o4 (fun k hk => by have := (hrlt k hk).1; have := h.hmb; have := h.hmc; simp; omega)
  refine ⟨v', rfl, ⟨⟨t4, by rw [hout]; exact r4⟩, m4, h.g.fill hin (Or.inl rfl), h.ha, h.hmb, h.hmc, h.n1, h.n2, by omega, by rw [hout, ← hout]; exact h.ch.out _, h.h0, h.he⟩, ?_, ?_⟩
  · intro k hk
    rcases hv k hk with hx | hx
    · exact .inl hx
    · exact .inr (by omega)
  · exact ((o02.mono (fun x hx => List.mem_cons_of_mem _ (List.mem_cons_of_mem _ (List.mem_cons_of_mem _ hx)))).setCell (Or.inl (by simp)) v').trans (o4.mono (by simp))

set_option maxHeartbeats 2000000 in
set_option maxRecDepth 100000 in
theorem put_done (h : Alc w a mb mc B frm e v L m t) (p n j : Nat) (hj : j < L.length) (hp : (L.getD j blk0).p = (p : Int)) (hn : (L.getD j blk0).n = (n : Int)) (h1 : 1 ≤ n) (hin : p + n ≤ m.ws.length) (hf : firstZ m.ws p n = none) (ht0 : 0 ≤ t) (ht1 : t ≤ 2147483648) :
    Calls Tryd.prog 16 #[.pointer (some ⟨a, 0, none⟩), .int .i64 p] w (PutDone a mb mc B frm e v L m t p n w) := by
  have up : ∀ i j, i < j → j < L.length → (L.getD i blk0).p < (L.getD j blk0).p := fun i j hij hj => by
    have h1 := (h.ch.up j hj).2.2.2 i hij
    have h2 := (h.ch.up i (by omega)).2.1
    omega
  have FD := Lib.hid (show Calls Tryd.prog 38 #[.pointer (some ⟨a, 0, none⟩), .int .i64 p] w fun en w' => en = .returned (.tuple #[.int .i64 j, .bool true]) ∧ Below w.heap.size w w' from (h.find p).mono (by
    rintro en w' ⟨i, hi, rfl, hb⟩
    obtain rfl := place_is hi up hj hp
    refine ⟨?_, hb⟩
    rw [decide_eq_true ⟨hj, hp⟩]))
  have H := Lib.hid h
  obtain ⟨_, x1, _⟩ := flat_at L j hj
  rw [hn] at x1
  have HX := Lib.hid x1
  have HP := Lib.hid hp
  have hsm := h.small
  have hw1 : IntKind.i64.wrap ((j : Int) + 1) = (j : Int) + 1 := by rw [IntKind.wrap_i64]; omega
  have UM := Lib.hid (fun (W : World) (hm : MemAt W mb mc m t) => memUnmap_done hm h.g.small p n h1 hin hf ht0 ht1)
  clear h x1 hp hn hf up
  rcases H.out.al.cells with ⟨rfl, rfl⟩ | ⟨g, cap, rfl, hgB, hgl, hnc, hcs⟩
  · simp at hj
  have HCS := Lib.hid hcs
  clear hcs
  obtain ⟨n0, hn0⟩ : ∃ n0, n0 = L.length := ⟨_, rfl⟩
  have HN := Lib.hid hn0
  go_enter Tryd.func16, Tryd.ntmps16
  go_wp2_with fail
  go_at_call 38
  refine FD.out.mono ?_
  rintro en w1 ⟨rfl, b1⟩
  have B1 := Lib.hid b1
  have A1 := Lib.hid (H.out.below b1)
  have c31 := (H.out.below b1).al.c3
  have c01 := (H.out.below b1).al.c0
  have cx := (b1.cell (p := ⟨g, j * 3 + 1, none⟩) hgl).trans (HCS.out _ _ HX.out)
  have DE := Lib.hid (delete_row A1.out.al.row j hj)
  rw [← hn0] at c31 DE hj
  clear b1 hn0
  go_wp2_with fail
  go_at_call 39
  refine DE.out.mono ?_
  rintro en w2 ⟨v', rfl, hr, hv, o2⟩
  obtain ⟨ad', l', cp', rfl⟩ := ownsRow_slice hr
  have HR := Lib.hid hr
  have HV := Lib.hid hv
  have O2 := Lib.hid o2
  have A2 := A1.out.al.top.only o2 (fun hx => by have := A1.out.own a (by rw [← HN.out]; simpa using hx); have := H.out.ha; omega)
  have c02 := A2.cell 0 (by simp)
  have c32 := A2.cell 3 (by simp)
  have f32 := A2.free 3 (by simp)
  simp only [List.getElem_cons_zero, List.getElem_cons_succ] at c02 c32
  have c03 : (w2.setCell ⟨a, 3, none⟩ (.slice ad' l' cp')).cell? ⟨a, 0, none⟩ = some (.pointer (some ⟨mb, 0, none⟩)) := by rw [World.cell?_setCell_other _ _ _ _ (by simp)]; exact c02
  have m3 : MemAt (w2.setCell ⟨a, 3, none⟩ (.slice ad' l' cp')) mb mc m t := (A1.out.me.only o2 (fun hx => by have := A1.out.own mb (by rw [← HN.out]; simpa using hx); have := H.out.hmb; omega) (fun hx => by have := A1.out.own mc (by rw [← HN.out]; simpa using hx); have := H.out.hmc; omega)).only ((Only.refl [a] w2).setCell (p := ⟨a, 3, none⟩) (Or.inl (by simp)) _) (by have := H.out.n1; simp; omega) (by have := H.out.n2; simp; omega)
  have M3 := Lib.hid m3
  clear hr hv o2 A2 m3
  go_wp2_with fail
  go_at_call 20
  refine (UM.out _ M3.out).mono ?_
  rintro en w4 ⟨rfl, m4, o4⟩
  have M4 := Lib.hid m4
  have O4 := Lib.hid o4
  clear m4 o4
  go_wp2_with fail
  go_ret
  have HNo := HN.out
  subst HNo
  exact putDone_of H.out p n j hj HP.out h1 hin B1.out HR.out HV.out O2.out M4.out O4.out
end
end Go.Proofs.YtlodelcenejfhaaDoor
