/- The program's blocks of cells (layer 3): contracts of Get where there is room: how the blocks and the memory lie behind it, or the memory's error, wrapped. The conditions: the blocks lie there over their memory. -/
import Derived.Test.YtlodelcenejfhaaDoorAllocGet
namespace Go.Proofs.YtlodelcenejfhaaDoor
open Go.RowKit Go.Shelf
set_option linter.unusedVariables false

/-- What Get leaves where it takes cells. -/
def GetDone (a mb mc B : Nat) (frm e : Int) (v : Value) (L : List Blk) (m : Cells) (t : Int) (p n : Nat) (k : Int) (w : World) (en : Ending) (w' : World) : Prop := ∃ v', en = .returned (.tuple #[.int .i64 p, .nilIface]) ∧
  Alc w' a mb mc B frm e v' (putIn ⟨p, n, k⟩ L) { ws := fillIn k m.ws p n, hs := fillIn 0 m.hs p n, n := m.n } (t + n) ∧ (∀ j, v'.ownBlock = some j → v.ownBlock = some j ∨ w.heap.size ≤ j) ∧ Only (a :: mb :: mc :: v.ownBlock.toList) w w'
theorem ownsRow_slice {w : World} {B : Nat} {t : TypeId} {s : Nat} {v : Value} {n : Nat} {xs : List Value} (h : w.ownsRow B t s v n xs) : ∃ ad l c, v = .slice ad l c := by
  rcases h.2 with ⟨rfl, _⟩ | ⟨g, cap, cur, rfl, _⟩
  · exact ⟨_, _, _, rfl⟩
  · exact ⟨_, _, _, rfl⟩
theorem rowIs_new (W : World) (b : Blk) : RowIs (W.alloc (.cells #[.int .i64 b.p, .int .i64 b.n, .int .i64 b.k] 65)) W.heap.size b.cs := heap_alloc_new W _

section
variable {w : World} {a mb mc B : Nat} {frm e : Int} {v : Value} {L : List Blk} {m : Cells} {t : Int}
/-- The blocks behind the memory's Map, find, Insert and the store of the slice. -/
theorem getDone_of (h : Alc w a mb mc B frm e v L m t) (p n : Nat) (k : Int) (h1 : 1 ≤ n) (hk : k = 64 ∨ k = 32) (hg : firstGap n (gaps e frm L) = some (p : Int)) (hin : p + n ≤ m.ws.length)
    {w1 w2 w3 w5 : World} {v' : Value} (b1 : Below w.heap.size w w1) (m2 : MemAt w2 mb mc { ws := fillIn k m.ws p n, hs := fillIn 0 m.hs p n, n := m.n } (t + n)) (o2 : Only [mb, mc] w1 w2) (b3 : Below w2.heap.size w2 w3)
    (i : Nat) (hi : PlaceOf L (p : Int) i) (bk : Blk) (hbk : bk = ⟨p, n, k⟩)
    (hr : w5.ownsRow B 65 3 v' (L.take i ++ bk :: L.drop i).length (flat (L.take i ++ bk :: L.drop i))) (hj : ∀ j, v'.ownBlock = some j → v.ownBlock = some j ∨ (w3.alloc (.cells #[.int .i64 bk.p, .int .i64 bk.n, .int .i64 bk.k] 65)).heap.size ≤ j)
    (o5 : Only v.ownBlock.toList (w3.alloc (.cells #[.int .i64 bk.p, .int .i64 bk.n, .int .i64 bk.k] 65)) w5) :
    GetDone a mb mc B frm e v L m t p n k w (.returned (.tuple #[.int .i64 p, .nilIface])) (w5.setCell ⟨a, 3, none⟩ v') := by
  have hput : putIn ⟨(p : Int), n, k⟩ L = L.take i ++ bk :: L.drop i := by rw [hbk]; exact putIn_at _ L i hi.lo hi.hi hi.le
  obtain ⟨hch, hp1, hp2⟩ := h.ch.put (n := n) (by omega) k hg
  have hw0 := h.al.top.lt
  have hmb := h.me.top.lt
  have hmc := h.me.lt
  have hown := h.own
  have hB := h.hB
  have s1 := b1.size
  have s2 := o2.size
  have s3 := b3.size
  have s5 := o5.size
  simp only [World.size_alloc] at s5
  -- the memory
  have o25 : Only v.ownBlock.toList w2 w5 := ((Only.of_below (F := v.ownBlock.toList) b3).alloc _).trans o5
  have hvo : ∀ j, j ∈ v.ownBlock.toList → B ≤ j ∧ j < w.heap.size := fun j hj' => hown j (by simpa using hj')
  have m5 : MemAt w5 mb mc { ws := fillIn k m.ws p n, hs := fillIn 0 m.hs p n, n := m.n } (t + n) := m2.only o25 (fun hx => by have := hvo _ hx; have := h.hmb; omega) (fun hx => by have := hvo _ hx; have := h.hmc; omega)
  have oa : Only (mb :: mc :: v.ownBlock.toList) w w5 := ((Only.of_below (F := mb :: mc :: v.ownBlock.toList) b1).trans (o2.mono (by simp))).trans (o25.mono (fun x hx => List.mem_cons_of_mem _ (List.mem_cons_of_mem _ hx)))
  have t5 : Row w5 a [.pointer (some ⟨mb, 0, none⟩), .int .i64 frm, .int .i64 e, v] := h.al.top.only oa (by
    simp only [List.mem_cons, not_or]
    exact ⟨h.n1, h.n2, fun hx => by have := hvo _ hx; have := h.ha; omega⟩)
  have hrlt := hr.lt
  refine ⟨v', rfl, ⟨⟨by have := t5.set 3 (by simp) v'; simpa using this, ?_⟩, ?_, h.g.fill hin (by omega), h.ha, h.hmb, h.hmc, h.n1, h.n2, ?_, hch, h.h0, h.he⟩, ?_, ?_⟩
  · rw [hput]
    exact ownsRow_only hr ((Only.refl [a] w5).setCell (Or.inl (by simp)) v') (fun j hj' => by have := (hrlt j hj').1; have := h.ha; simp; omega)
  · exact m5.only ((Only.refl [a] w5).setCell (p := ⟨a, 3, none⟩) (Or.inl (by simp)) v') (by simp; exact fun hx => h.n1 hx.symm) (by simp; exact fun hx => h.n2 hx.symm)
  · simp [World.setCell]; omega
  · intro j hj'
    rcases hj j hj' with hx | hx
    · exact .inl hx
    · exact .inr (by simp only [World.size_alloc] at hx; omega)
  · exact (oa.mono (by intro x hx; exact List.mem_cons_of_mem _ hx)).setCell (Or.inl (by simp)) v'

set_option maxHeartbeats 2000000 in
set_option maxRecDepth 100000 in
theorem get_done64 (h : Alc w a mb mc B frm e v L m t) (p n : Nat) (h1 : 1 ≤ n) (h2 : n ≤ 4096) (hg : firstGap n (gaps e frm L) = some (p : Int)) (hin : p + n ≤ m.ws.length) (hf : firstNZ m.ws p n = none) (ht0 : 0 ≤ t) (ht1 : t ≤ 2147483648) :
    Calls Tryd.prog 22 #[.pointer (some ⟨a, 0, none⟩), .int .i64 n, .int .i64 64] w (GetDone a mb mc B frm e v L m t p n 64 w) := by
  have RM := h.room n
  rw [hg] at RM
  have R := Lib.hid (show Calls Tryd.prog 44 #[.pointer (some ⟨a, 0, none⟩), .int .i64 n] w fun en W' => en = .returned (.tuple #[.int .i64 p, .bool true]) ∧ Below w.heap.size w W' from RM)
  have H := Lib.hid h
  have HG := Lib.hid hg
  have MP := Lib.hid (fun (w1 : World) (b1 : Below w.heap.size w w1) => memMap_done (h.below b1).me h.g.small p n 64 h1 hin (by omega) hf ht0 ht1)
  have c0 := h.al.c0
  have c3 := h.al.c3
  have f3 := h.al.f3
  have hal := h.al.top.lt
  obtain ⟨bk, hbk⟩ : ∃ bk : Blk, bk = ⟨p, n, 64⟩ := ⟨_, rfl⟩
  have HBK := Lib.hid hbk
  clear h RM hg hf hbk
  go_enter Tryd.func22, Tryd.ntmps22
  go_wp2_with fail
  go_at_call 44
  refine R.out.mono ?_
  rintro en w1 ⟨rfl, b1⟩
  have B1 := Lib.hid b1
  have c01 : w1.cell? ⟨a, 0, none⟩ = some (.pointer (some ⟨mb, 0, none⟩)) := (H.out.below b1).al.c0
  clear b1
  go_wp2_with fail
  go_at_call 18
  refine (MP.out w1 B1.out).mono ?_
  rintro en w2 ⟨rfl, m2, o2⟩
  have M2 := Lib.hid m2
  have O2 := Lib.hid o2
  have A2 := Lib.hid ((H.out.below B1.out).al.only o2 (by have := H.out.n1; have := H.out.n2; simp; omega) (fun g hg => by have := H.out.own g hg; have := H.out.hmb; have := H.out.hmc; simp; omega))
  clear m2 o2
  go_wp2_with fail
  go_at_call 38
  refine (find_any A2.out H.out.ch H.out.small p).mono ?_
  rintro en w3 ⟨i, hi, rfl, b3⟩
  obtain ⟨fb, hfb⟩ : ∃ fb, fb = decide (i < L.length ∧ (L.getD i blk0).p = (p : Int)) := ⟨_, rfl⟩
  rw [← hfb]
  have HI := Lib.hid hi
  have B3 := Lib.hid b3
  have A3 := Lib.hid (A2.out.below b3)
  have c33 : w3.cell? ⟨a, 3, none⟩ = some v := (A2.out.below b3).c3
  have hw3 := (A2.out.below b3).top.lt
  clear hfb hi b3
  have hsz3 : B ≤ w3.heap.size := by have := H.out.hB; have := B1.out.size; have := O2.out.size; have := B3.out.size; omega
  have A4 := A3.out.below (w' := w3.alloc (.cells #[.int .i64 p, .int .i64 n, .int .i64 64] 65)) ((Below.refl _ _).alloc (Nat.le_refl _) _)
  have IN := Lib.hid (insert_row A4.row H.out.small bk w3.heap.size (by rw [HBK.out]; exact rowIs_new w3 ⟨p, n, 64⟩) (fun hx => by have := (A3.out.row.lt _ hx).2; omega) (by simp; omega) i HI.out.le)
  have AT4 := Lib.hid A4
  clear A4
  go_wp2_with fail
  go_at_call 45
  refine IN.out.mono ?_
  rintro en w5 ⟨v', rfl, hr, hj, o5⟩
  obtain ⟨ad', l', cp', rfl⟩ := ownsRow_slice hr
  have HR := Lib.hid hr
  have HJ := Lib.hid hj
  have O5 := Lib.hid o5
  have A5 := AT4.out.top.only o5 (fun hx => by have := A3.out.row.lt a (by simpa using hx); have := H.out.ha; omega)
  have c35 : w5.cell? ⟨a, 3, none⟩ = some v := A5.cell 3 (by simp)
  have f35 : w5.frozen? ⟨a, 3, none⟩ = false := A5.free 3 (by simp)
  clear hr hj o5 A5
  go_wp2_with fail
  go_ret2
  exact getDone_of H.out p n 64 h1 (by omega) HG.out hin B1.out M2.out O2.out B3.out i HI.out bk HBK.out HR.out (by rw [HBK.out]; exact HJ.out) (by rw [HBK.out]; exact O5.out)

set_option maxHeartbeats 2000000 in
set_option maxRecDepth 100000 in
theorem get_done32 (h : Alc w a mb mc B frm e v L m t) (p n : Nat) (h1 : 1 ≤ n) (h2 : n ≤ 4096) (hg : firstGap n (gaps e frm L) = some (p : Int)) (hin : p + n ≤ m.ws.length) (hf : firstNZ m.ws p n = none) (ht0 : 0 ≤ t) (ht1 : t ≤ 2147483648) :
    Calls Tryd.prog 22 #[.pointer (some ⟨a, 0, none⟩), .int .i64 n, .int .i64 32] w (GetDone a mb mc B frm e v L m t p n 32 w) := by
  have RM := h.room n
  rw [hg] at RM
  have R := Lib.hid (show Calls Tryd.prog 44 #[.pointer (some ⟨a, 0, none⟩), .int .i64 n] w fun en W' => en = .returned (.tuple #[.int .i64 p, .bool true]) ∧ Below w.heap.size w W' from RM)
  have H := Lib.hid h
  have HG := Lib.hid hg
  have MP := Lib.hid (fun (w1 : World) (b1 : Below w.heap.size w w1) => memMap_done (h.below b1).me h.g.small p n 32 h1 hin (by omega) hf ht0 ht1)
  have c0 := h.al.c0
  have c3 := h.al.c3
  have f3 := h.al.f3
  have hal := h.al.top.lt
  obtain ⟨bk, hbk⟩ : ∃ bk : Blk, bk = ⟨p, n, 32⟩ := ⟨_, rfl⟩
  have HBK := Lib.hid hbk
  clear h RM hg hf hbk
  go_enter Tryd.func22, Tryd.ntmps22
  go_wp2_with fail
  go_at_call 44
  refine R.out.mono ?_
  rintro en w1 ⟨rfl, b1⟩
  have B1 := Lib.hid b1
  have c01 : w1.cell? ⟨a, 0, none⟩ = some (.pointer (some ⟨mb, 0, none⟩)) := (H.out.below b1).al.c0
  clear b1
  go_wp2_with fail
  go_at_call 18
  refine (MP.out w1 B1.out).mono ?_
  rintro en w2 ⟨rfl, m2, o2⟩
  have M2 := Lib.hid m2
  have O2 := Lib.hid o2
  have A2 := Lib.hid ((H.out.below B1.out).al.only o2 (by have := H.out.n1; have := H.out.n2; simp; omega) (fun g hg => by have := H.out.own g hg; have := H.out.hmb; have := H.out.hmc; simp; omega))
  clear m2 o2
  go_wp2_with fail
  go_at_call 38
  refine (find_any A2.out H.out.ch H.out.small p).mono ?_
  rintro en w3 ⟨i, hi, rfl, b3⟩
  obtain ⟨fb, hfb⟩ : ∃ fb, fb = decide (i < L.length ∧ (L.getD i blk0).p = (p : Int)) := ⟨_, rfl⟩
  rw [← hfb]
  have HI := Lib.hid hi
  have B3 := Lib.hid b3
  have A3 := Lib.hid (A2.out.below b3)
  have c33 : w3.cell? ⟨a, 3, none⟩ = some v := (A2.out.below b3).c3
  have hw3 := (A2.out.below b3).top.lt
  clear hfb hi b3
  have hsz3 : B ≤ w3.heap.size := by have := H.out.hB; have := B1.out.size; have := O2.out.size; have := B3.out.size; omega
  have A4 := A3.out.below (w' := w3.alloc (.cells #[.int .i64 p, .int .i64 n, .int .i64 32] 65)) ((Below.refl _ _).alloc (Nat.le_refl _) _)
  have IN := Lib.hid (insert_row A4.row H.out.small bk w3.heap.size (by rw [HBK.out]; exact rowIs_new w3 ⟨p, n, 32⟩) (fun hx => by have := (A3.out.row.lt _ hx).2; omega) (by simp; omega) i HI.out.le)
  have AT4 := Lib.hid A4
  clear A4
  go_wp2_with fail
  go_at_call 45
  refine IN.out.mono ?_
  rintro en w5 ⟨v', rfl, hr, hj, o5⟩
  obtain ⟨ad', l', cp', rfl⟩ := ownsRow_slice hr
  have HR := Lib.hid hr
  have HJ := Lib.hid hj
  have O5 := Lib.hid o5
  have A5 := AT4.out.top.only o5 (fun hx => by have := A3.out.row.lt a (by simpa using hx); have := H.out.ha; omega)
  have c35 : w5.cell? ⟨a, 3, none⟩ = some v := A5.cell 3 (by simp)
  have f35 : w5.frozen? ⟨a, 3, none⟩ = false := A5.free 3 (by simp)
  clear hr hj o5 A5
  go_wp2_with fail
  go_ret2
  exact getDone_of H.out p n 32 h1 (by omega) HG.out hin B1.out M2.out O2.out B3.out i HI.out bk HBK.out HR.out (by rw [HBK.out]; exact HJ.out) (by rw [HBK.out]; exact O5.out)
theorem get_done (h : Alc w a mb mc B frm e v L m t) (p n : Nat) (k : Int) (h1 : 1 ≤ n) (h2 : n ≤ 4096) (hk : k = 64 ∨ k = 32) (hg : firstGap n (gaps e frm L) = some (p : Int)) (hin : p + n ≤ m.ws.length) (hf : firstNZ m.ws p n = none) (ht0 : 0 ≤ t) (ht1 : t ≤ 2147483648) :
    Calls Tryd.prog 22 #[.pointer (some ⟨a, 0, none⟩), .int .i64 n, .int .i64 k] w (GetDone a mb mc B frm e v L m t p n k w) := by
  rcases hk with rfl | rfl
  · exact get_done64 h p n h1 h2 hg hin hf ht0 ht1
  · exact get_done32 h p n h1 h2 hg hin hf ht0 ht1
end
end Go.Proofs.YtlodelcenejfhaaDoor
