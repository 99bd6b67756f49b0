/- Whatever is taken and given back, also where somebody else has cells, is what the document says: the walk of AllocPlays, and the two allocators side by side. The condition: the library's variable errors.errorType holds the type error. -/
import Derived.Test.YtlodelcenejfhaaDoorAllocPut
import Derived.Test.YtlodelcenejfhaaDoorRefAllocPut
import Derived.Test.YtlodelcenejfhaaDoorAllocAwake
import Derived.Test.YtlodelcenejfhaaDoorRefMemNew
import Derived.Test.YtlodelcenejfhaaDoorKeepWithin
import Derived.Test.YtlodelcenejfhaaDoorLawClose
import Derived.Deep.RegionHeld3
import Derived.KernelRfl
namespace Go.Proofs.YtlodelcenejfhaaDoor
open Go.RowKit Go.Shelf
set_option linter.unusedVariables false

/-- An error of the allocator's around one of the memory's. -/
theorem errAt_two {w : World} {x y : Nat} {p n k : Int} (h1 : w.heap[x]? = some (.cells #[.string allocS, .int .i64 p, .iface 89 (.pointer (some ⟨y, 0, none⟩))] 93)) (h2 : ErrBlk w y memS n k) :
    ErrAt w (.iface 89 (.pointer (some ⟨x, 0, none⟩))) [(allocS, p), (memS, n)] k :=
  .place _ allocS p _ [(memS, n)] k (by rw [cells_of h1]; rfl) (by rw [cells_of h1]; rfl) (by rw [cells_of h1]; rfl) h2.errAt
theorem errTwo_only (w1 : World) (p n k : Int) {F : List Nat} {w2 : World} (hF : ∀ x ∈ F, x < w1.heap.size) (ho : Only F ((w1.alloc (.cells #[.string memS, .int .i64 n, .iface 57 (.int .i64 k)] 93)).alloc (.cells #[.string allocS, .int .i64 p, .iface 89 (.pointer (some ⟨w1.heap.size, 0, none⟩))] 93)) w2) :
    ErrAt w2 (.iface 89 (.pointer (some ⟨w1.heap.size + 1, 0, none⟩))) [(allocS, p), (memS, n)] k := by
  have h1 := heap_alloc_new (w1.alloc (.cells #[.string memS, .int .i64 n, .iface 57 (.int .i64 k)] 93)) (.cells #[.string allocS, .int .i64 p, .iface 89 (.pointer (some ⟨w1.heap.size, 0, none⟩))] 93)
  rw [World.size_alloc] at h1
  refine errAt_two ((ho.block (w1.heap.size + 1) (by simp) (fun hx => by have := hF _ hx; omega)).trans h1) ?_
  exact ((ErrBlk.new w1 memS n k).only ((Only.refl [] _).alloc _) (by simp)).only ho (fun hx => by have := hF _ hx; omega)
theorem errTwo_new (w1 : World) (p n k : Int) :
    ErrAt ((w1.alloc (.cells #[.string memS, .int .i64 n, .iface 57 (.int .i64 k)] 93)).alloc (.cells #[.string allocS, .int .i64 p, .iface 89 (.pointer (some ⟨w1.heap.size, 0, none⟩))] 93))
      (.iface 89 (.pointer (some ⟨w1.heap.size + 1, 0, none⟩))) [(allocS, p), (memS, n)] k := errTwo_only w1 p n k (F := []) (by simp) (Only.refl _ _)

/-- What Get leaves where the memory refuses. -/
def GetErr (l : List (ByteArray × Int)) (k : Int) (w : World) (e : Ending) (w' : World) : Prop := ∃ x, e = .returned (.tuple #[.int .i64 0, .iface 89 (.pointer (some ⟨x, 0, none⟩))]) ∧ ErrAt w' (.iface 89 (.pointer (some ⟨x, 0, none⟩))) l k ∧ Below w.heap.size w w'
theorem getErr_of {w w1 : World} (p n k : Int) (hb : Below w.heap.size w w1) : GetErr [(allocS, p), (memS, n)] k w (.returned (.tuple #[.int .i64 0, .iface 89 (.pointer (some ⟨w1.heap.size + 1, 0, none⟩))]))
    ((w1.alloc (.cells #[.string memS, .int .i64 n, .iface 57 (.int .i64 k)] 93)).alloc (.cells #[.string allocS, .int .i64 p, .iface 89 (.pointer (some ⟨w1.heap.size, 0, none⟩))] 93)) :=
  ⟨_, rfl, errTwo_new w1 p n k, (hb.alloc hb.size _).alloc (by have := hb.size; simp; omega) _⟩

section
variable {w : World} {a mb mc B : Nat} {frm e : Int} {v : Value} {L : List Blk} {m : Cells} {t : Int}
set_option maxHeartbeats 1000000 in
theorem get_fail64 (h : Alc w a mb mc B frm e v L m t) (p n n' k' : Int) (h1 : 1 ≤ n) (h2 : n ≤ 4096) (hg : firstGap n (gaps e frm L) = some p)
    (hM : ∀ w', MemAt w' mb mc m t → Calls Tryd.prog 18 #[.pointer (some ⟨mb, 0, none⟩), .int .i64 p, .int .i64 n, .int .i64 64] w' (FaultPost n' k' w')) :
    Calls Tryd.prog 22 #[.pointer (some ⟨a, 0, none⟩), .int .i64 n, .int .i64 64] w (GetErr [(allocS, p), (memS, n')] k' w) := by
  have RM := h.room n
  rw [hg] at RM
  have R := Lib.hid (show Calls Tryd.prog 44 #[.pointer (some ⟨a, 0, none⟩), .int .i64 n] w fun en W' => en = .returned (.tuple #[.int .i64 p, .bool true]) ∧ Below w.heap.size w W' from RM)
  have H := Lib.hid h
  have MP := Lib.hid (fun (w1 : World) (b1 : Below w.heap.size w w1) => hM w1 (h.below b1).me)
  have FA := Lib.hid (fun x W => afault_any p 89 x W)
  clear h RM hg hM
  go_enter Tryd.func22, Tryd.ntmps22
  go_wp2_with fail
  go_at_call 44
  refine R.out.mono ?_
  rintro en w1 ⟨rfl, b1⟩
  have c01 : w1.cell? ⟨a, 0, none⟩ = some (.pointer (some ⟨mb, 0, none⟩)) := (H.out.below b1).al.c0
  have FIN := Lib.hid (getErr_of p n' k' b1)
  have B1 := Lib.hid b1
  clear b1
  go_wp2_with fail
  go_at_call 18
  refine (MP.out w1 B1.out).mono ?_
  rintro en w2 ⟨rfl, rfl⟩
  go_wp2_with fail
  go_at_call 35
  refine (FA.out _ _).mono ?_
  rintro en w3 ⟨rfl, rfl⟩
  go_wp2_with fail
  go_ret2
  exact FIN.out
set_option maxHeartbeats 1000000 in
theorem get_fail32 (h : Alc w a mb mc B frm e v L m t) (p n n' k' : Int) (h1 : 1 ≤ n) (h2 : n ≤ 4096) (hg : firstGap n (gaps e frm L) = some p)
    (hM : ∀ w', MemAt w' mb mc m t → Calls Tryd.prog 18 #[.pointer (some ⟨mb, 0, none⟩), .int .i64 p, .int .i64 n, .int .i64 32] w' (FaultPost n' k' w')) :
    Calls Tryd.prog 22 #[.pointer (some ⟨a, 0, none⟩), .int .i64 n, .int .i64 32] w (GetErr [(allocS, p), (memS, n')] k' w) := by
  have RM := h.room n
  rw [hg] at RM
  have R := Lib.hid (show Calls Tryd.prog 44 #[.pointer (some ⟨a, 0, none⟩), .int .i64 n] w fun en W' => en = .returned (.tuple #[.int .i64 p, .bool true]) ∧ Below w.heap.size w W' from RM)
  have H := Lib.hid h
  have MP := Lib.hid (fun (w1 : World) (b1 : Below w.heap.size w w1) => hM w1 (h.below b1).me)
  have FA := Lib.hid (fun x W => afault_any p 89 x W)
  clear h RM hg hM
  go_enter Tryd.func22, Tryd.ntmps22
  go_wp2_with fail
  go_at_call 44
  refine R.out.mono ?_
  rintro en w1 ⟨rfl, b1⟩
  have c01 : w1.cell? ⟨a, 0, none⟩ = some (.pointer (some ⟨mb, 0, none⟩)) := (H.out.below b1).al.c0
  have FIN := Lib.hid (getErr_of p n' k' b1)
  have B1 := Lib.hid b1
  clear b1
  go_wp2_with fail
  go_at_call 18
  refine (MP.out w1 B1.out).mono ?_
  rintro en w2 ⟨rfl, rfl⟩
  go_wp2_with fail
  go_at_call 35
  refine (FA.out _ _).mono ?_
  rintro en w3 ⟨rfl, rfl⟩
  go_wp2_with fail
  go_ret2
  exact FIN.out

/-- What Put leaves where the memory refuses: the block is free nevertheless. -/
def PutErr (a mb mc B : Nat) (frm e : Int) (v : Value) (L : List Blk) (m : Cells) (t : Int) (x : Int) (l : List (ByteArray × Int)) (k : Int) (w : World) (en : Ending) (w' : World) : Prop := ∃ v' y, en = .returned (.iface 89 (.pointer (some ⟨y, 0, none⟩))) ∧ ErrAt w' (.iface 89 (.pointer (some ⟨y, 0, none⟩))) l k ∧
  Alc w' a mb mc B frm e v' (takeOut x L) m t ∧ (∀ j, v'.ownBlock = some j → v.ownBlock = some j ∨ w.heap.size ≤ j) ∧ Only (a :: mb :: mc :: v.ownBlock.toList) w w' ∧
  ∀ F w2, (∀ x ∈ F, x < w.heap.size) → Only F w' w2 → ErrAt w2 (.iface 89 (.pointer (some ⟨y, 0, none⟩))) l k
theorem putErr_of (h : Alc w a mb mc B frm e v L m t) (p : Int) (j : Nat) (hj : j < L.length) (hp : (L.getD j blk0).p = p) (n' k' : Int)
    {w1 w2 : World} {v' : Value} (b1 : Below w.heap.size w w1) (hr : w2.ownsRow B 65 3 v' (L.take j ++ L.drop (j + 1)).length (flat (L.take j ++ L.drop (j + 1)))) (hv : ∀ k, v'.ownBlock = some k → v.ownBlock = some k ∨ w1.heap.size ≤ k)
    (o2 : Only v.ownBlock.toList w1 w2) :
    PutErr a mb mc B frm e v L m t p [(allocS, p), (memS, n')] k' w (.returned (.iface 89 (.pointer (some ⟨(w2.setCell ⟨a, 3, none⟩ v').heap.size + 1, 0, none⟩))))
      (((w2.setCell ⟨a, 3, none⟩ v').alloc (.cells #[.string memS, .int .i64 n', .iface 57 (.int .i64 k')] 93)).alloc (.cells #[.string allocS, .int .i64 p, .iface 89 (.pointer (some ⟨(w2.setCell ⟨a, 3, none⟩ v').heap.size, 0, none⟩))] 93)) := by
  have hout : takeOut p L = L.take j ++ L.drop (j + 1) := takeOut_at _ L j hj (fun i hi hx => by
    have := (h.ch.up j hj).2.2.2 i hi
    have := (h.ch.up i (by omega)).2.1
    omega) hp
  have hw0 := h.al.top.lt
  have hown := h.own
  have hB := h.hB
  have s1 := b1.size
  have s2 := o2.size
  have hvo : ∀ k, k ∈ v.ownBlock.toList → B ≤ k ∧ k < w.heap.size := fun k hk => hown k (by simpa using hk)
  have o02 : Only v.ownBlock.toList w w2 := (Only.of_below b1).trans o2
  have t2 : Row w2 a [.pointer (some ⟨mb, 0, none⟩), .int .i64 frm, .int .i64 e, v] := h.al.top.only o02 (fun hx => by have := hvo _ hx; have := h.ha; omega)
  have t3 : Row (w2.setCell ⟨a, 3, none⟩ v') a [.pointer (some ⟨mb, 0, none⟩), .int .i64 frm, .int .i64 e, v'] := by have := t2.set 3 (by simp) v'; simpa using this
  have hrlt := hr.lt
  have os : Only [a] w2 (w2.setCell ⟨a, 3, none⟩ v') := (Only.refl [a] w2).setCell (Or.inl (by simp)) v'
  have r3 := ownsRow_only hr os (fun k hk => by have := (hrlt k hk).1; have := h.ha; simp; omega)
  have m3 : MemAt (w2.setCell ⟨a, 3, none⟩ v') mb mc m t := (h.me.only o02 (fun hx => by have := hvo _ hx; have := h.hmb; omega) (fun hx => by have := hvo _ hx; have := h.hmc; omega)).only os (by simp; exact fun hx => h.n1 hx.symm) (by simp; exact fun hx => h.n2 hx.symm)
  have hal : Alc (w2.setCell ⟨a, 3, none⟩ v') a mb mc B frm e v' (takeOut p L) m t := ⟨⟨t3, by rw [hout]; exact r3⟩, m3, h.g, h.ha, h.hmb, h.hmc, h.n1, h.n2, by simp [World.setCell]; omega, by exact h.ch.out _, h.h0, h.he⟩
  have bn : Below (w2.setCell ⟨a, 3, none⟩ v').heap.size (w2.setCell ⟨a, 3, none⟩ v') (((w2.setCell ⟨a, 3, none⟩ v').alloc (.cells #[.string memS, .int .i64 n', .iface 57 (.int .i64 k')] 93)).alloc (.cells #[.string allocS, .int .i64 p, .iface 89 (.pointer (some ⟨(w2.setCell ⟨a, 3, none⟩ v').heap.size, 0, none⟩))] 93)) := ((Below.refl _ _).alloc (Nat.le_refl _) _).alloc (by simp) _
  refine ⟨v', _, rfl, errTwo_new _ p n' k', hal.below bn, ?_, ?_, fun F w9 hF ho => errTwo_only _ p n' k' (fun x hx => by have := hF x hx; simp [World.setCell]; omega) ho⟩
  · intro k hk
    rcases hv k hk with hx | hx
    · exact .inl hx
    · exact .inr (by omega)
  · exact (((o02.mono (fun x hx => List.mem_cons_of_mem _ (List.mem_cons_of_mem _ (List.mem_cons_of_mem _ hx)))).setCell (Or.inl (by simp)) v')).trans (Only.of_below bn)

set_option maxHeartbeats 2000000 in
set_option maxRecDepth 100000 in
theorem put_fail (h : Alc w a mb mc B frm e v L m t) (p n : Int) (j : Nat) (hj : j < L.length) (hp : (L.getD j blk0).p = p) (hn : (L.getD j blk0).n = n) (n' k' : Int)
    (hM : ∀ w', MemAt w' mb mc m t → Calls Tryd.prog 20 #[.pointer (some ⟨mb, 0, none⟩), .int .i64 p, .int .i64 n] w' (FaultPost n' k' w')) :
    Calls Tryd.prog 16 #[.pointer (some ⟨a, 0, none⟩), .int .i64 p] w (PutErr a mb mc B frm e v L m t p [(allocS, p), (memS, n')] k' w) := by
  have up : ∀ i j, i < j → j < L.length → (L.getD i blk0).p < (L.getD j blk0).p := fun i j hij hj => by
    have h1 := (h.ch.up j hj).2.2.2 i hij
    have h2 := (h.ch.up i (by omega)).2.1
    omega
  have FD := Lib.hid (show Calls Tryd.prog 38 #[.pointer (some ⟨a, 0, none⟩), .int .i64 p] w fun en w' => en = .returned (.tuple #[.int .i64 j, .bool true]) ∧ Below w.heap.size w w' from (h.find p).mono (by
    rintro en w' ⟨i, hi, rfl, hb⟩
    obtain rfl := place_is hi up hj hp
    refine ⟨?_, hb⟩
    rw [decide_eq_true ⟨hj, hp⟩]))
  have H := Lib.hid h
  obtain ⟨_, x1, _⟩ := flat_at L j hj
  rw [hn] at x1
  have HX := Lib.hid x1
  have HP := Lib.hid hp
  have hsm := h.small
  have hw1 : IntKind.i64.wrap ((j : Int) + 1) = (j : Int) + 1 := by rw [IntKind.wrap_i64]; omega
  have UM := Lib.hid hM
  have FA := Lib.hid (fun x W => afault_any p 89 x W)
  clear h x1 hp hn up hM
  rcases H.out.al.cells with ⟨rfl, rfl⟩ | ⟨g, cap, rfl, hgB, hgl, hnc, hcs⟩
  · simp at hj
  have HCS := Lib.hid hcs
  clear hcs
  obtain ⟨n0, hn0⟩ : ∃ n0, n0 = L.length := ⟨_, rfl⟩
  have HN := Lib.hid hn0
  go_enter Tryd.func16, Tryd.ntmps16
  go_wp2_with fail
  go_at_call 38
  refine FD.out.mono ?_
  rintro en w1 ⟨rfl, b1⟩
  have B1 := Lib.hid b1
  have A1 := Lib.hid (H.out.below b1)
  have c31 := (H.out.below b1).al.c3
  have c01 := (H.out.below b1).al.c0
  have cx := (b1.cell (p := ⟨g, j * 3 + 1, none⟩) hgl).trans (HCS.out _ _ HX.out)
  have DE := Lib.hid (delete_row A1.out.al.row j hj)
  rw [← hn0] at c31 DE hj
  clear b1 hn0
  go_wp2_with fail
  go_at_call 39
  refine DE.out.mono ?_
  rintro en w2 ⟨v', rfl, hr, hv, o2⟩
  obtain ⟨ad', l', cp', rfl⟩ := ownsRow_slice hr
  have HR := Lib.hid hr
  have HV := Lib.hid hv
  have O2 := Lib.hid o2
  have A2 := A1.out.al.top.only o2 (fun hx => by have := A1.out.own a (by rw [← HN.out]; simpa using hx); have := H.out.ha; omega)
  have c02 := A2.cell 0 (by simp)
  have c32 := A2.cell 3 (by simp)
  have f32 := A2.free 3 (by simp)
  simp only [List.getElem_cons_zero, List.getElem_cons_succ] at c02 c32
  have c03 : (w2.setCell ⟨a, 3, none⟩ (.slice ad' l' cp')).cell? ⟨a, 0, none⟩ = some (.pointer (some ⟨mb, 0, none⟩)) := by rw [World.cell?_setCell_other _ _ _ _ (by simp)]; exact c02
  have m3 : MemAt (w2.setCell ⟨a, 3, none⟩ (.slice ad' l' cp')) mb mc m t := (A1.out.me.only o2 (fun hx => by have := A1.out.own mb (by rw [← HN.out]; simpa using hx); have := H.out.hmb; omega) (fun hx => by have := A1.out.own mc (by rw [← HN.out]; simpa using hx); have := H.out.hmc; omega)).only ((Only.refl [a] w2).setCell (p := ⟨a, 3, none⟩) (Or.inl (by simp)) _) (by have := H.out.n1; simp; omega) (by have := H.out.n2; simp; omega)
  have M3 := Lib.hid m3
  clear hr hv o2 A2 m3
  have HNo := HN.out
  subst HNo
  have hsz : (w2.setCell ⟨a, 3, none⟩ (.slice ad' l' cp')).heap.size = w2.heap.size := by simp [World.setCell]
  have fin0 := putErr_of H.out p j hj HP.out n' k' B1.out HR.out HV.out O2.out
  rw [hsz] at fin0
  have FIN := Lib.hid fin0
  clear hsz fin0
  go_wp2_with fail
  go_at_call 20
  refine (UM.out _ M3.out).mono ?_
  rintro en w4 ⟨rfl, rfl⟩
  go_wp2_with fail
  go_at_call 35
  refine (FA.out _ _).mono ?_
  rintro en w5 ⟨rfl, rfl⟩
  go_wp2_with fail
  go_ret
  exact FIN.out
end
end Go.Proofs.YtlodelcenejfhaaDoor

namespace Go.Proofs.YtlodelcenejfhaaDoor
open Go.RowKit Go.Shelf
set_option linter.unusedVariables false

/-- Where all lies: seven blocks, no two the same, below B and from N0 on. -/
structure Stat (N0 a mb mc ra r bw bh B : Nat) : Prop where
  p1 : a ≠ mb ∧ a ≠ mc ∧ mb ≠ mc
  p2 : ra ≠ r ∧ ra ≠ bw ∧ ra ≠ bh
  pa : a ≠ ra ∧ a ≠ r ∧ a ≠ bw ∧ a ≠ bh
  pb : mb ≠ ra ∧ mb ≠ r ∧ mb ≠ bw ∧ mb ≠ bh
  pc : mc ≠ ra ∧ mc ≠ r ∧ mc ≠ bw ∧ mc ≠ bh
  lt : (a < B ∧ mb < B ∧ mc < B) ∧ ra < B ∧ r < B ∧ bw < B ∧ bh < B
  ge : (N0 ≤ a ∧ N0 ≤ mb ∧ N0 ≤ mc) ∧ N0 ≤ ra ∧ N0 ≤ r ∧ N0 ≤ bw ∧ N0 ≤ bh
  eg : 0 < N0

/-- Both in one state. -/
structure Pl (W : World) (N0 a mb mc ra r bw bh B : Nat) (frm e : Int) (v rv : Value) (L : List Blk) (m : Cells) : Prop where
  st : Stat N0 a mb mc ra r bw bh B
  al : Alc W a mb mc B frm e v L m (countNZ m.ws)
  rm : RefMem W r bw bh m
  ra : RefAl W ra r B frm e rv L
  er : ErrType W
  dy : ∀ g, v.ownBlock = some g → rv.ownBlock ≠ some g
/-- Some state of both. -/
def PlS (len : Nat) (N0 a mb mc ra r bw bh B : Nat) (frm e : Int) (W : World) : Prop := ∃ v rv L m, Pl W N0 a mb mc ra r bw bh B frm e v rv L m ∧ m.ws.length = len

/-- The blocks that a call of both may write. -/
abbrev allF (a mb mc ra bw bh : Nat) (v : Value) : List Nat := a :: mb :: mc :: ra :: bw :: bh :: v.ownBlock.toList
section
variable {W w' : World} {N0 a mb mc ra r bw bh B : Nat} {frm e : Int} {v rv v' rv' : Value} {L L' : List Blk} {m m' : Cells}
theorem Pl.own (h : Pl W N0 a mb mc ra r bw bh B frm e v rv L m) : ∀ g, v.ownBlock = some g → B ≤ g ∧ g < W.heap.size := h.al.own
theorem Pl.rown (h : Pl W N0 a mb mc ra r bw bh B frm e v rv L m) : ∀ g, rv.ownBlock = some g → B ≤ g ∧ g < W.heap.size := h.ra.row.lt
theorem Pl.memF (h : Pl W N0 a mb mc ra r bw bh B frm e v rv L m) : ∀ x ∈ allF a mb mc ra bw bh v, N0 ≤ x ∧ x < W.heap.size := fun x hx => by
  obtain ⟨⟨l1, l2, l3⟩, l4, l5, l6, l7⟩ := h.st.lt
  obtain ⟨⟨g1, g2, g3⟩, g4, g5, g6, g7⟩ := h.st.ge
  have hB := h.al.hB
  simp only [allF, List.mem_cons, Option.mem_toList] at hx
  rcases hx with rfl | rfl | rfl | rfl | rfl | rfl | hx
  · omega
  · omega
  · omega
  · omega
  · omega
  · omega
  · have := h.own x hx; omega
/-- The document's side behind a call of the program's. -/
theorem Pl.afterP (h : Pl W N0 a mb mc ra r bw bh B frm e v rv L m) (ho : Only (a :: mb :: mc :: v.ownBlock.toList) W w') (hf : ∀ j, v'.ownBlock = some j → v.ownBlock = some j ∨ W.heap.size ≤ j) :
    RefMem w' r bw bh m ∧ RefAl w' ra r B frm e rv L ∧ ErrType w' ∧ (∀ g, v'.ownBlock = some g → rv.ownBlock ≠ some g) := by
  obtain ⟨⟨l1, l2, l3⟩, l4, l5, l6, l7⟩ := h.st.lt
  have pa := h.st.pa
  have pb := h.st.pb
  have pc := h.st.pc
  have ge := h.st.ge
  have eg := h.st.eg
  have no : ∀ x, x < B → x ≠ a → x ≠ mb → x ≠ mc → x ∉ (a :: mb :: mc :: v.ownBlock.toList) := fun x hx n1 n2 n3 hm => by
    simp only [List.mem_cons, Option.mem_toList] at hm
    rcases hm with rfl | rfl | rfl | hm
    · exact n1 rfl
    · exact n2 rfl
    · exact n3 rfl
    · have := (h.own x hm).1; omega
  refine ⟨h.rm.only ho (no _ l5 (by omega) (by omega) (by omega)) (no _ l6 (by omega) (by omega) (by omega)) (no _ l7 (by omega) (by omega) (by omega)), h.ra.only ho (no _ l4 (by omega) (by omega) (by omega)) (fun g hg hm => ?_), errType_only ho (no _ (by omega) (by omega) (by omega) (by omega)) h.er, fun g hg hr => ?_⟩
  · have hb := (h.rown g hg).1
    simp only [List.mem_cons, Option.mem_toList] at hm
    rcases hm with rfl | rfl | rfl | hm
    · omega
    · omega
    · omega
    · exact h.dy g hm hg
  · rcases hf g hg with hx | hx
    · exact h.dy g hx hr
    · have := (h.rown g hr).2; omega
theorem Pl.below (h : Pl W N0 a mb mc ra r bw bh B frm e v rv L m) (hb : Below W.heap.size W w') : Pl w' N0 a mb mc ra r bw bh B frm e v rv L m :=
  ⟨h.st, h.al.below hb, h.rm.only (F := []) (Only.of_below hb) (by simp) (by simp) (by simp), h.ra.below hb, errType_below hb h.er (cell_lt h.er), h.dy⟩
/-- The program's side behind a call of the document's. -/
theorem Alc.afterR (st : Stat N0 a mb mc ra r bw bh B) {t : Int} (h : Alc W a mb mc B frm e v L m t) (ho : Only [ra, bw, bh] W w') : Alc w' a mb mc B frm e v L m t := by
  obtain ⟨⟨l1, l2, l3⟩, l4, l5, l6, l7⟩ := st.lt
  have pa := st.pa
  have pb := st.pb
  have pc := st.pc
  exact h.kept ho (by simp; omega) (by simp; omega) (by simp; omega) (fun g hg => by have := (h.own g hg).1; simp; omega)
theorem errType_afterR (st : Stat N0 a mb mc ra r bw bh B) (h : ErrType W) (ho : Only [ra, bw, bh] W w') : ErrType w' := by
  have ge := st.ge
  have eg := st.eg
  exact errType_only ho (by simp; omega) h
end

/-- A call of the program's, the like call of the document's behind it, and Same of the errors that they return. -/
def Duo (fP : FuncId) (aP : Array Value) (fR : FuncId) (aR : Array Value) (mkP mkR : Value → Value) (F : List Nat) (W : World) (Post : World → Prop) : Prop :=
  Calls Tryd.prog fP aP W fun e w1 => ∃ EV, e = .returned (mkP EV) ∧ Only F W w1 ∧ Hid (Calls Tryd.prog fR aR w1 fun e w2 => ∃ FV, e = .returned (mkR FV) ∧ Only F W w2 ∧
    Hid (Calls Tryd.prog 15 #[EV, FV] w2 fun e w3 => e = .returned (.bool true) ∧ Only F W w3 ∧ Post w3))
theorem Duo.calls {fP : FuncId} {aP : Array Value} {fR : FuncId} {aR : Array Value} {mkP mkR : Value → Value} {F : List Nat} {W : World} {Post : World → Prop} (h : Duo fP aP fR aR mkP mkR F W Post) :
  Calls Tryd.prog fP aP W fun e w1 => ∃ EV, e = .returned (mkP EV) ∧ Only F W w1 ∧ Hid (Calls Tryd.prog fR aR w1 fun e w2 => ∃ FV, e = .returned (mkR FV) ∧ Only F W w2 ∧
    Hid (Calls Tryd.prog 15 #[EV, FV] w2 fun e w3 => e = .returned (.bool true) ∧ Only F W w3 ∧ Post w3)) := h

theorem failAt_only {w w' : World} {F : Value} {l : List (ByteArray × Int)} {k : Int} (h : FailAt w F l k) (hb : Below w.heap.size w w') : FailAt w' F l k := by
  obtain ⟨b, bl, bp, cl, cp, rfl, f0, f1, f2, fl, fp⟩ := h
  have kp : ∀ {p : Addr} {u : Value}, w.cell? p = some u → w'.cell? p = some u := fun {p u} hc => by rw [hb.cell (World.block_lt_of_cell? _ _ hc)]; exact hc
  exact ⟨b, bl, bp, cl, cp, rfl, kp f0, kp f1, kp f2, fun j hj => kp (fl j hj), fun j hj => kp (fp j hj)⟩
theorem errAt_two_only {F : List Nat} {w w' : World} {x : Nat} {l : List (ByteArray × Int)} {k : Int} (h : ErrAt w (.iface 89 (.pointer (some ⟨x, 0, none⟩))) l k) (hk : ∀ p u, w.cell? p = some u → w'.cell? p = some u) : ErrAt w' (.iface 89 (.pointer (some ⟨x, 0, none⟩))) l k := h.mono hk

section
variable {W : World} {N0 a mb mc ra r bw bh B : Nat} {frm e : Int} {v rv : Value} {L L' : List Blk} {m : Cells} {fP fR : FuncId} {aP aR : Array Value} {mkP mkR : Value → Value}
/-- Both refuse with an error of one place; nothing has turned. -/
theorem duo_bad (h : Pl W N0 a mb mc ra r bw bh B frm e v rv L m) (y : ByteArray) (n k : Int) (k1 : 1 ≤ k) (k10 : k ≤ 10)
    (hP : Calls Tryd.prog fP aP W fun en w' => ∃ x, en = .returned (mkP (.iface 89 (.pointer (some ⟨x, 0, none⟩)))) ∧ ErrBlk w' x y n k ∧ Below W.heap.size W w')
    (hR : ∀ w1, Pl w1 N0 a mb mc ra r bw bh B frm e v rv L m → Calls Tryd.prog fR aR w1 fun en w' => ∃ z, en = .returned (mkR (.pointer (some ⟨z + 1 + 1, 0, none⟩))) ∧ FailBlk w' z y n k ∧ Below w1.heap.size w1 w') :
    Duo fP aP fR aR mkP mkR (allF a mb mc ra bw bh v) W fun w3 => PlS m.ws.length N0 a mb mc ra r bw bh B frm e w3 := by
  refine hP.mono ?_
  rintro en w1 ⟨x, rfl, hx, b1⟩
  have P1 := h.below b1
  refine ⟨_, rfl, Only.of_below b1, Lib.hid ((hR w1 P1).mono ?_)⟩
  rintro en w2 ⟨z, rfl, hz, b2⟩
  have P2 := P1.below b2
  have x2 := hx.only (F := []) (Only.of_below b2) (by simp)
  refine ⟨_, rfl, (Only.of_below b1).trans (Only.of_below b2), Lib.hid ((same_blk x2 hz k1 k10 P2.er).mono ?_)⟩
  rintro en w3 ⟨rfl, b3⟩
  exact ⟨rfl, ((Only.of_below b1).trans (Only.of_below b2)).trans (Only.of_below b3), v, rv, L, m, P2.below b3, rfl⟩
/-- Both refuse with an error of two places; nothing has turned. -/
theorem duo_two (h : Pl W N0 a mb mc ra r bw bh B frm e v rv L m) (l : List (ByteArray × Int)) (k : Int) (hl : l.length < 9223372036854775807) (k1 : 1 ≤ k) (k10 : k ≤ 10)
    (hP : Calls Tryd.prog fP aP W fun en w' => ∃ x, en = .returned (mkP (.iface 89 (.pointer (some ⟨x, 0, none⟩)))) ∧ ErrAt w' (.iface 89 (.pointer (some ⟨x, 0, none⟩))) l k ∧ Below W.heap.size W w')
    (hR : ∀ w1, Pl w1 N0 a mb mc ra r bw bh B frm e v rv L m → Calls Tryd.prog fR aR w1 fun en w' => ∃ F, en = .returned (mkR F) ∧ FailAt w' F l k ∧ Below w1.heap.size w1 w') :
    Duo fP aP fR aR mkP mkR (allF a mb mc ra bw bh v) W fun w3 => PlS m.ws.length N0 a mb mc ra r bw bh B frm e w3 := by
  refine hP.mono ?_
  rintro en w1 ⟨x, rfl, hx, b1⟩
  have P1 := h.below b1
  refine ⟨_, rfl, Only.of_below b1, Lib.hid ((hR w1 P1).mono ?_)⟩
  rintro en w2 ⟨F, rfl, hz, b2⟩
  have P2 := P1.below b2
  have x2 := hx.mono (W' := w2) fun p u hc => by rw [b2.cell (World.block_lt_of_cell? _ _ hc)]; exact hc
  refine ⟨_, rfl, (Only.of_below b1).trans (Only.of_below b2), Lib.hid ((same_any _ _ l k x2 hz hl k1 k10 P2.er).mono ?_)⟩
  rintro en w3 ⟨rfl, b3⟩
  exact ⟨rfl, ((Only.of_below b1).trans (Only.of_below b2)).trans (Only.of_below b3), v, rv, L, m, P2.below b3, rfl⟩
end
end Go.Proofs.YtlodelcenejfhaaDoor

namespace Go.Proofs.YtlodelcenejfhaaDoor
open Go.RowKit Go.Shelf
set_option linter.unusedVariables false

theorem inside_no {l a n : Int} (h : a < 0 ∨ l - a < n) : inside l a n = false := by
  simp only [inside]
  by_cases h0 : 0 ≤ a
  · by_cases h1 : n ≤ l
    · simp [h0, h1]; omega
    · simp [h1]
  · simp [h0]
/-- Both memories' Map refuse alike, or none of the cells is mapped. -/
theorem dual_map {m : Cells} (g : Good m) (a n k : Int) (a1 : a ≤ 9223372036854775807) (n0 : 1 ≤ n) (n1 : n ≤ 9223372036854775807) (hk : k = 64 ∨ k = 32) :
    (∃ n' k' : Int, 1 ≤ k' ∧ k' ≤ 10 ∧ (∀ w b bc, MemAt w b bc m (countNZ m.ws) → Calls Tryd.prog 18 #[.pointer (some ⟨b, 0, none⟩), .int .i64 a, .int .i64 n, .int .i64 k] w (FaultPost n' k' w)) ∧
      (∀ w r bw bh, RefMem w r bw bh m → Calls Tryd.prog 19 #[.pointer (some ⟨r, 0, none⟩), .int .i64 a, .int .i64 n, .int .i64 k] w (NoPost memS n' k' w))) ∨
    (∃ a' c : Nat, a = a' ∧ n = c ∧ a' + c ≤ m.ws.length ∧ firstNZ m.ws a' c = none) := by
  by_cases hin : a < 0 ∨ (m.ws.length : Int) - a < n
  · exact .inl ⟨a, 2, by omega, by omega, fun w b bc h => memMap_addr h g.small a n k n0 n1 a1 hk hin, fun w r bw bh h => refMap_addr h g.small a n k n0 hk (inside_no hin)⟩
  · obtain ⟨a', rfl⟩ : ∃ x : Nat, a = x := ⟨a.toNat, by omega⟩
    obtain ⟨c, rfl⟩ : ∃ x : Nat, n = x := ⟨n.toNat, by omega⟩
    have hac : a' + c ≤ m.ws.length := by omega
    cases hf : firstNZ m.ws a' c with
    | some i0 => exact .inl ⟨i0, 4, by omega, by omega, fun w b bc h => memMap_block h g.small a' c k (by omega) hac hk i0 hf, fun w r bw bh h => refMap_block h g.small a' c k (by omega) hac hk i0 hf⟩
    | none => exact .inr ⟨a', c, rfl, rfl, hac, hf⟩
theorem dual_unmap {m : Cells} (g : Good m) (a n : Int) (a1 : a ≤ 9223372036854775807) (n0 : 1 ≤ n) (n1 : n ≤ 9223372036854775807) :
    (∃ n' k' : Int, 1 ≤ k' ∧ k' ≤ 10 ∧ (∀ w b bc, MemAt w b bc m (countNZ m.ws) → Calls Tryd.prog 20 #[.pointer (some ⟨b, 0, none⟩), .int .i64 a, .int .i64 n] w (FaultPost n' k' w)) ∧
      (∀ w r bw bh, RefMem w r bw bh m → Calls Tryd.prog 21 #[.pointer (some ⟨r, 0, none⟩), .int .i64 a, .int .i64 n] w (NoPost memS n' k' w))) ∨
    (∃ a' c : Nat, a = a' ∧ n = c ∧ a' + c ≤ m.ws.length ∧ firstZ m.ws a' c = none) := by
  by_cases hin : a < 0 ∨ (m.ws.length : Int) - a < n
  · exact .inl ⟨a, 2, by omega, by omega, fun w b bc h => memUnmap_addr h g.small a n n0 n1 a1 hin, fun w r bw bh h => refUnmap_addr h g.small a n n0 (inside_no hin)⟩
  · obtain ⟨a', rfl⟩ : ∃ x : Nat, a = x := ⟨a.toNat, by omega⟩
    obtain ⟨c, rfl⟩ : ∃ x : Nat, n = x := ⟨n.toNat, by omega⟩
    have hac : a' + c ≤ m.ws.length := by omega
    cases hf : firstZ m.ws a' c with
    | some i0 => exact .inl ⟨i0, 4, by omega, by omega, fun w b bc h => memUnmap_block h g.small a' c (by omega) hac i0 hf, fun w r bw bh h => refUnmap_block h g.small a' c (by omega) hac i0 hf⟩
    | none => exact .inr ⟨a', c, rfl, rfl, hac, hf⟩

theorem subF {a mb mc ra bw bh : Nat} {v : Value} : ∀ x ∈ (a :: mb :: mc :: v.ownBlock.toList), x ∈ allF a mb mc ra bw bh v := fun x hx => by
  simp only [allF, List.mem_cons] at hx ⊢
  rcases hx with hx | hx | hx | hx
  · exact .inl hx
  · exact .inr (.inl hx)
  · exact .inr (.inr (.inl hx))
  · exact .inr (.inr (.inr (.inr (.inr (.inr hx)))))
section
variable {W : World} {N0 a mb mc ra r bw bh B : Nat} {frm e : Int} {v rv : Value} {L L' : List Blk} {m m1 : Cells} {fP fR : FuncId} {aP aR : Array Value} {mkP mkR : Value → Value}
/-- Both have done it. -/
theorem duo_done (h : Pl W N0 a mb mc ra r bw bh B frm e v rv L m) (hlen : m1.ws.length = m.ws.length)
    (hP : Calls Tryd.prog fP aP W fun en w' => ∃ v', en = .returned (mkP .nilIface) ∧ Alc w' a mb mc B frm e v' L' m1 (countNZ m1.ws) ∧ (∀ j, v'.ownBlock = some j → v.ownBlock = some j ∨ W.heap.size ≤ j) ∧ Only (a :: mb :: mc :: v.ownBlock.toList) W w')
    (hR : ∀ w1, RefAl w1 ra r B frm e rv L → RefMem w1 r bw bh m → B ≤ w1.heap.size → Calls Tryd.prog fR aR w1 fun en w' => ∃ rv', en = .returned (mkR (.pointer none)) ∧ RefAl w' ra r B frm e rv' L' ∧ RefMem w' r bw bh m1 ∧ (∀ g, rv'.ownBlock = some g → rv.ownBlock = some g ∨ w1.heap.size ≤ g) ∧ Only [ra, bw, bh] w1 w') :
    Duo fP aP fR aR mkP mkR (allF a mb mc ra bw bh v) W fun w3 => PlS m.ws.length N0 a mb mc ra r bw bh B frm e w3 := by
  refine hP.mono ?_
  rintro en w1 ⟨v', rfl, A1, hf, o1⟩
  obtain ⟨rm1, ra1, er1, dy1⟩ := h.afterP o1 hf
  have O1 : Only (allF a mb mc ra bw bh v) W w1 := o1.mono subF
  refine ⟨_, rfl, O1, Lib.hid ((hR w1 ra1 rm1 A1.hB).mono ?_)⟩
  rintro en w2 ⟨rv', rfl, ra2, rm2, hg, o2⟩
  have O2 : Only (allF a mb mc ra bw bh v) w1 w2 := o2.mono (by simp)
  have A2 := A1.afterR h.st o2
  have er2 := errType_afterR h.st er1 o2
  refine ⟨_, rfl, O1.trans O2, Lib.hid ((same_nil w2).mono ?_)⟩
  rintro en w3 ⟨rfl, rfl⟩
  refine ⟨rfl, O1.trans O2, v', rv', L', m1, ⟨h.st, A2, rm2, ra2, er2, fun g hg1 hg2 => ?_⟩, hlen⟩
  rcases hg g hg2 with hx | hx
  · exact dy1 g hg1 hx
  · have := (A1.own g hg1).2; omega
/-- Both have done it, but for the memory, which refused. -/
theorem duo_err (h : Pl W N0 a mb mc ra r bw bh B frm e v rv L m) (l : List (ByteArray × Int)) (k : Int) (hl : l.length < 9223372036854775807) (k1 : 1 ≤ k) (k10 : k ≤ 10)
    (hP : Calls Tryd.prog fP aP W fun en w' => ∃ v' y, en = .returned (mkP (.iface 89 (.pointer (some ⟨y, 0, none⟩)))) ∧ ErrAt w' (.iface 89 (.pointer (some ⟨y, 0, none⟩))) l k ∧ Alc w' a mb mc B frm e v' L' m (countNZ m.ws) ∧ (∀ j, v'.ownBlock = some j → v.ownBlock = some j ∨ W.heap.size ≤ j) ∧ Only (a :: mb :: mc :: v.ownBlock.toList) W w' ∧
      ∀ F w2, (∀ x ∈ F, x < W.heap.size) → Only F w' w2 → ErrAt w2 (.iface 89 (.pointer (some ⟨y, 0, none⟩))) l k)
    (hR : ∀ w1, RefAl w1 ra r B frm e rv L → RefMem w1 r bw bh m → B ≤ w1.heap.size → Calls Tryd.prog fR aR w1 fun en w' => ∃ rv' F, en = .returned (mkR F) ∧ FailAt w' F l k ∧ RefAl w' ra r B frm e rv' L' ∧ RefMem w' r bw bh m ∧ (∀ g, rv'.ownBlock = some g → rv.ownBlock = some g ∨ w1.heap.size ≤ g) ∧ Only [ra, bw, bh] w1 w') :
    Duo fP aP fR aR mkP mkR (allF a mb mc ra bw bh v) W fun w3 => PlS m.ws.length N0 a mb mc ra r bw bh B frm e w3 := by
  refine hP.mono ?_
  rintro en w1 ⟨v', y, rfl, hE, A1, hf, o1, hk⟩
  obtain ⟨rm1, ra1, er1, dy1⟩ := h.afterP o1 hf
  have O1 : Only (allF a mb mc ra bw bh v) W w1 := o1.mono subF
  refine ⟨_, rfl, O1, Lib.hid ((hR w1 ra1 rm1 A1.hB).mono ?_)⟩
  rintro en w2 ⟨rv', F, rfl, hF, ra2, rm2, hg, o2⟩
  have O2 : Only (allF a mb mc ra bw bh v) w1 w2 := o2.mono (by simp)
  have A2 := A1.afterR h.st o2
  have er2 := errType_afterR h.st er1 o2
  refine ⟨_, rfl, O1.trans O2, Lib.hid ((same_any _ _ l k (hk _ w2 (fun x hx => (h.memF x (by simp only [List.mem_cons, List.not_mem_nil, or_false] at hx; rcases hx with rfl | rfl | rfl <;> simp)).2) o2) hF hl k1 k10 er2).mono ?_)⟩
  rintro en w3 ⟨rfl, b3⟩
  have P2 : Pl w2 N0 a mb mc ra r bw bh B frm e v' rv' L' m := ⟨h.st, A2, rm2, ra2, er2, fun g hg1 hg2 => by
    rcases hg g hg2 with hx | hx
    · exact dy1 g hg1 hx
    · have := (A1.own g hg1).2; omega⟩
  exact ⟨rfl, (O1.trans O2).trans (Only.of_below b3), v', rv', L', m, P2.below b3, rfl⟩

theorem count_fill (m : Cells) (a c : Nat) (k : Int) (hk : k ≠ 0) (hac : a + c ≤ m.ws.length) (hf : firstNZ m.ws a c = none) : countNZ m.ws + (c : Int) = countNZ (fillIn k m.ws a c) := (count_mapped k hk c m.ws a hac hf).symm
theorem count_clear (m : Cells) (a c : Nat) (hac : a + c ≤ m.ws.length) (hf : firstZ m.ws a c = none) : countNZ m.ws - (c : Int) = countNZ (fillIn 0 m.ws a c) := (count_unmapped c m.ws a hac hf).symm

/-- Put at both. -/
theorem duo_put (h : Pl W N0 a mb mc ra r bw bh B frm e v rv L m) (x : Int) :
    Duo 16 #[.pointer (some ⟨a, 0, none⟩), .int .i64 x] 17 #[.pointer (some ⟨ra, 0, none⟩), .int .i64 x] (fun F => F) (fun F => F) (allF a mb mc ra bw bh v) W fun w3 => PlS m.ws.length N0 a mb mc ra r bw bh B frm e w3 := by
  have hC := h.al.ch
  have h0 := h.al.h0
  have he := h.al.he
  obtain ⟨⟨l1, l2, l3⟩, l4, l5, l6, l7⟩ := h.st.lt
  by_cases hx : ∃ j, j < L.length ∧ (L.getD j blk0).p = x
  · obtain ⟨j, hj, hp⟩ := hx
    have hu := hC.up j hj
    rw [hp] at hu
    obtain ⟨n, hn⟩ : ∃ n, (L.getD j blk0).n = n := ⟨_, rfl⟩
    rw [hn] at hu
    have rvo : ∀ w1, RefAl w1 ra r B frm e rv L → ∀ g, rv.ownBlock = some g → g ≠ bw ∧ g ≠ bh := fun w1 hA g hg => by have := (hA.row.lt g hg).1; omega
    rcases dual_unmap h.al.g x n (by omega) (by omega) (by omega) with ⟨n', k', k1, k10, hP, hR⟩ | ⟨x', c, rfl, rfl, hac, hf⟩
    · refine duo_err (L' := takeOut x L) h [(allocS, x), (memS, n')] k' (by simp) k1 k10 ?_ ?_
      · refine (put_fail h.al x n j hj hp hn n' k' (fun w' hm => hP w' mb mc hm)).mono ?_
        rintro en w' ⟨v', y, e1, e2, e3, e4, e5, e6⟩
        exact ⟨v', y, e1, e2, e3, e4, e5, e6⟩
      · intro w1 hA hm hB
        refine (refPut_fail hA hm hC h0 he x n j hj hp hn hB h.st.p2.1 h.st.p2.2.1 h.st.p2.2.2 (rvo w1 hA) n' k' (fun w' hm' => hR w' r bw bh hm')).mono ?_
        rintro en w' ⟨v', F, e1, _, e2, e3, e4, e5, e6⟩
        exact ⟨v', F, e1, e2, e3, e4, fun g hg => .inr (e5 g hg), e6⟩
    · have cb := countNZ_bounds m.ws
      have hs := h.al.g.small
      refine duo_done (m1 := { ws := fillIn 0 m.ws x' c, hs := fillIn 0 m.hs x' c, n := m.n }) (L' := takeOut x' L) h (fillIn_length _ _ _ _) ?_ ?_
      · refine (put_done h.al x' c j hj hp hn (by omega) hac hf cb.1 (by omega)).mono ?_
        rintro en w' ⟨v', e1, e2, e3, e4⟩
        rw [count_clear m x' c hac hf] at e2
        exact ⟨v', e1, e2, e3, e4⟩
      · intro w1 hA hm hB
        refine (refPut_done hA hm hC h0 he x' c j hj hp hn hB h.st.p2.1 h.st.p2.2.1 h.st.p2.2.2 (rvo w1 hA) _ (fun w' hm' => refUnmap_done hm' hs x' c (by omega) hac hf)).mono ?_
        rintro en w' ⟨v', e1, e3, e4, e5, e6⟩
        exact ⟨v', e1, e3, e4, fun g hg => .inr (e5 g hg), e6⟩
  · have hn : ∀ j, j < L.length → (L.getD j blk0).p ≠ x := fun j hj hp => hx ⟨j, hj, hp⟩
    refine duo_bad h allocS x 4 (by omega) (by omega) ?_ ?_
    · refine (put_none h.al x hn).mono ?_
      rintro en w' ⟨y, e1, e2, _, e3⟩
      exact ⟨y, e1, e2, e3⟩
    · intro w1 h1
      exact refPut_none h1.ra hC h0 he x hn

/-- Get at both: the first cell that both tell. -/
theorem duo_get (h : Pl W N0 a mb mc ra r bw bh B frm e v rv L m) (n k : Int) : ∃ P : Int,
    Duo 22 #[.pointer (some ⟨a, 0, none⟩), .int .i64 n, .int .i64 k] 23 #[.pointer (some ⟨ra, 0, none⟩), .int .i64 n, .int .i64 k] (fun F => .tuple #[.int .i64 P, F]) (fun F => .tuple #[.int .i64 P, F]) (allF a mb mc ra bw bh v) W fun w3 => PlS m.ws.length N0 a mb mc ra r bw bh B frm e w3 := by
  have hC := h.al.ch
  have h0 := h.al.h0
  have he := h.al.he
  obtain ⟨⟨l1, l2, l3⟩, l4, l5, l6, l7⟩ := h.st.lt
  by_cases hok : n < 1 ∨ 4096 < n ∨ ¬ (k = 64 ∨ k = 32)
  · refine ⟨0, duo_bad h allocS 0 1 (by omega) (by omega) ?_ ?_⟩
    · refine (get_arg _ n k hok W).mono ?_
      rintro en w' ⟨y, e1, e2, _, e3⟩
      exact ⟨y, e1, e2, e3⟩
    · intro w1 h1
      exact refGet_arg _ n k hok w1
  · have h1 : 1 ≤ n := by omega
    have h2 : n ≤ 4096 := by omega
    have hk : k = 64 ∨ k = 32 := by omega
    cases hg : firstGap n (gaps e frm L) with
    | none =>
      refine ⟨0, duo_bad h allocS 0 3 (by omega) (by omega) ?_ ?_⟩
      · refine (get_room h.al n k h1 h2 hk hg).mono ?_
        rintro en w' ⟨y, e1, e2, _, e3⟩
        exact ⟨y, e1, e2, e3⟩
      · intro w1 hp1
        rcases hk with rfl | rfl
        · exact refGet_room64 hp1.ra hp1.rm hC h0 he n h1 h2 hg
        · exact refGet_room32 hp1.ra hp1.rm hC h0 he n h1 h2 hg
    | some p =>
      obtain ⟨_, hp0, hpe⟩ := hC.put h1 k hg
      have rvo : ∀ w1, RefAl w1 ra r B frm e rv L → ∀ g, rv.ownBlock = some g → g ≠ bw ∧ g ≠ bh := fun w1 hA g hg => by have := (hA.row.lt g hg).1; omega
      rcases dual_map h.al.g p n k (by omega) h1 (by omega) hk with ⟨n', k', k1, k10, hP, hR⟩ | ⟨p', c, rfl, rfl, hac, hf⟩
      · refine ⟨0, duo_two h [(allocS, p), (memS, n')] k' (by simp) k1 k10 ?_ ?_⟩
        · rcases hk with rfl | rfl
          · exact get_fail64 h.al p n n' k' h1 h2 hg (fun w' hm => hP w' mb mc hm)
          · exact get_fail32 h.al p n n' k' h1 h2 hg (fun w' hm => hP w' mb mc hm)
        · intro w1 hp1
          have key : Calls Tryd.prog 23 #[.pointer (some ⟨ra, 0, none⟩), .int .i64 n, .int .i64 k] w1 (RefErr [(allocS, p), (memS, n')] k' mkG w1) := by
            rcases hk with rfl | rfl
            · exact refGet_fail64 hp1.ra hp1.rm hC h0 he n h1 h2 p n' k' hg (fun w' hm => hR w' r bw bh hm)
            · exact refGet_fail32 hp1.ra hp1.rm hC h0 he n h1 h2 p n' k' hg (fun w' hm => hR w' r bw bh hm)
          refine key.mono ?_
          rintro en w' ⟨F, e1, _, e2, e3⟩
          exact ⟨F, e1, e2, e3⟩
      · have cb := countNZ_bounds m.ws
        have hs := h.al.g.small
        refine ⟨p', duo_done (m1 := { ws := fillIn k m.ws p' c, hs := fillIn 0 m.hs p' c, n := m.n }) (L' := putIn ⟨p', c, k⟩ L) h (fillIn_length _ _ _ _) ?_ ?_⟩
        · refine (get_done h.al p' c k (by omega) (by omega) hk hg hac hf cb.1 (by omega)).mono ?_
          rintro en w' ⟨v', e1, e2, e3, e4⟩
          rw [count_fill m p' c k (by omega) hac hf] at e2
          exact ⟨v', e1, e2, e3, e4⟩
        · intro w1 hA hm hB
          have key : Calls Tryd.prog 23 #[.pointer (some ⟨ra, 0, none⟩), .int .i64 c, .int .i64 k] w1 (RefDone ra r bw bh B frm e (putIn ⟨p', c, k⟩ L) { ws := fillIn k m.ws p' c, hs := fillIn 0 m.hs p' c, n := m.n } (.tuple #[.int .i64 p', .pointer none]) w1) := by
            rcases hk with rfl | rfl
            · exact refGet_done64 hA hm hC h0 he c h1 h2 p' _ hg hB h.st.p2.1 h.st.p2.2.1 h.st.p2.2.2 (rvo w1 hA) (fun w' hm' => refMap_done64 hm' hs p' c (by omega) hac hf)
            · exact refGet_done32 hA hm hC h0 he c h1 h2 p' _ hg hB h.st.p2.1 h.st.p2.2.1 h.st.p2.2.2 (rvo w1 hA) (fun w' hm' => refMap_done32 hm' hs p' c (by omega) hac hf)
          refine key.mono ?_
          rintro en w' ⟨v', e1, e3, e4, e5, e6⟩
          exact ⟨v', e1, e3, e4, fun g hg => .inr (e5 g hg), e6⟩

/-- The memory's own call turned it; the blocks are as they were. -/
theorem alc_mem (st : Stat N0 a mb mc ra r bw bh B) {w' : World} {t t1 : Int} (h : Alc W a mb mc B frm e v L m t) (hm : MemAt w' mb mc m1 t1) (g1 : Good m1) (ho : Only [mb, mc] W w') : Alc w' a mb mc B frm e v L m1 t1 :=
  ⟨h.al.only ho (by have := st.p1; simp; omega) (fun g hg => by have := (h.own g hg).1; have := st.lt; simp; omega), hm, g1, h.ha, h.hmb, h.hmc, h.n1, h.n2, Nat.le_trans h.hB ho.size, h.ch, h.h0, h.he⟩

/-- Somebody else's Map at both. -/
theorem duo_map (h : Pl W N0 a mb mc ra r bw bh B frm e v rv L m) (x : Int) (hx : x ≤ 9223372036854775807) :
    Duo 18 #[.pointer (some ⟨mb, 0, none⟩), .int .i64 x, .int .i64 1, .int .i64 64] 19 #[.pointer (some ⟨r, 0, none⟩), .int .i64 x, .int .i64 1, .int .i64 64] (fun F => F) (fun F => F) (allF a mb mc ra bw bh v) W fun w3 => PlS m.ws.length N0 a mb mc ra r bw bh B frm e w3 := by
  rcases dual_map h.al.g x 1 64 hx (by omega) (by omega) (.inl rfl) with ⟨n', k', k1, k10, hP, hR⟩ | ⟨x', c, rfl, hc, hac, hf⟩
  · refine duo_bad h memS n' k' k1 k10 ?_ ?_
    · refine (hP W mb mc h.al.me).mono ?_
      rintro en w' ⟨rfl, rfl⟩
      exact ⟨_, rfl, ErrBlk.new _ _ _ _, (Below.refl _ _).alloc (Nat.le_refl _) _⟩
    · intro w1 h1
      refine (hR w1 r bw bh h1.rm).mono ?_
      rintro en w' ⟨rfl, rfl⟩
      exact ⟨_, rfl, FailBlk.new _ _ _ _, (((Below.refl _ _).alloc (Nat.le_refl _) _).alloc (by simp) _).alloc (by simp; omega) _⟩
  · obtain rfl : c = 1 := by omega
    have cb := countNZ_bounds m.ws
    have hs := h.al.g.small
    refine duo_done (m1 := { ws := fillIn 64 m.ws x' 1, hs := fillIn 0 m.hs x' 1, n := m.n }) (L' := L) h (fillIn_length _ _ _ _) ?_ ?_
    · refine (memMap_done h.al.me hs x' 1 64 (by omega) hac (.inl rfl) hf cb.1 (by omega)).mono ?_
      rintro en w' ⟨rfl, e2, e4⟩
      rw [count_fill m x' 1 64 (by omega) hac hf] at e2
      exact ⟨v, rfl, alc_mem h.st h.al e2 (h.al.g.fill hac (.inr (.inr rfl))) e4, fun j hj => .inl hj, e4.mono (by simp)⟩
    · intro w1 hA hm hB
      refine (refMap_done64 hm hs x' 1 (by omega) hac hf).mono ?_
      rintro en w' ⟨rfl, e3, e4⟩
      exact ⟨rv, rfl, hA.only e4 (by have := h.st.p2; simp; omega) (fun g hg => by have := (hA.row.lt g hg).1; have := h.st.lt; simp; omega), e3, fun g hg => .inl hg, e4.mono (by simp)⟩
/-- Somebody else's Unmap at both. -/
theorem duo_unmap (h : Pl W N0 a mb mc ra r bw bh B frm e v rv L m) (x : Int) (hx : x ≤ 9223372036854775807) :
    Duo 20 #[.pointer (some ⟨mb, 0, none⟩), .int .i64 x, .int .i64 1] 21 #[.pointer (some ⟨r, 0, none⟩), .int .i64 x, .int .i64 1] (fun F => F) (fun F => F) (allF a mb mc ra bw bh v) W fun w3 => PlS m.ws.length N0 a mb mc ra r bw bh B frm e w3 := by
  rcases dual_unmap h.al.g x 1 hx (by omega) (by omega) with ⟨n', k', k1, k10, hP, hR⟩ | ⟨x', c, rfl, hc, hac, hf⟩
  · refine duo_bad h memS n' k' k1 k10 ?_ ?_
    · refine (hP W mb mc h.al.me).mono ?_
      rintro en w' ⟨rfl, rfl⟩
      exact ⟨_, rfl, ErrBlk.new _ _ _ _, (Below.refl _ _).alloc (Nat.le_refl _) _⟩
    · intro w1 h1
      refine (hR w1 r bw bh h1.rm).mono ?_
      rintro en w' ⟨rfl, rfl⟩
      exact ⟨_, rfl, FailBlk.new _ _ _ _, (((Below.refl _ _).alloc (Nat.le_refl _) _).alloc (by simp) _).alloc (by simp; omega) _⟩
  · obtain rfl : c = 1 := by omega
    have cb := countNZ_bounds m.ws
    have hs := h.al.g.small
    refine duo_done (m1 := { ws := fillIn 0 m.ws x' 1, hs := fillIn 0 m.hs x' 1, n := m.n }) (L' := L) h (fillIn_length _ _ _ _) ?_ ?_
    · refine (memUnmap_done h.al.me hs x' 1 (by omega) hac hf cb.1 (by omega)).mono ?_
      rintro en w' ⟨rfl, e2, e4⟩
      rw [count_clear m x' 1 hac hf] at e2
      exact ⟨v, rfl, alc_mem h.st h.al e2 (h.al.g.fill hac (.inl rfl)) e4, fun j hj => .inl hj, e4.mono (by simp)⟩
    · intro w1 hA hm hB
      refine (refUnmap_done hm hs x' 1 (by omega) hac hf).mono ?_
      rintro en w' ⟨rfl, e3, e4⟩
      exact ⟨rv, rfl, hA.only e4 (by have := h.st.p2; simp; omega) (fun g hg => by have := (hA.row.lt g hg).1; have := h.st.lt; simp; omega), e3, fun g hg => .inl hg, e4.mono (by simp)⟩
end
end Go.Proofs.YtlodelcenejfhaaDoor

namespace Go.Proofs.YtlodelcenejfhaaDoor
open Go.RowKit Go.Shelf
set_option linter.unusedVariables false

section
variable {W : World} {N0 a mb mc ra r bw bh B : Nat} {frm e : Int} {v rv : Value} {L : List Blk} {m : Cells} {ad ad2 : Option Addr} {cap2 : Nat}
/-- Both, and the slice that was told. -/
structure Sm (W : World) (N0 a mb mc ra r bw bh B : Nat) (frm e : Int) (v rv : Value) (L : List Blk) (m : Cells) (ad ad2 : Option Addr) (cap2 : Nat) : Prop where
  p : Pl W N0 a mb mc ra r bw bh B frm e v rv L m
  x : BlkIn W ad L
  y : BlkIn W ad2 L
  f : rv = .slice ad2 L.length cap2
theorem Sm.below {w' : World} (h : Sm W N0 a mb mc ra r bw bh B frm e v rv L m ad ad2 cap2) (hb : Below W.heap.size W w') : Sm w' N0 a mb mc ra r bw bh B frm e v rv L m ad ad2 cap2 := ⟨h.p.below hb, h.x.below hb, h.y.below hb, h.f⟩
theorem Sm.c3 (h : Sm W N0 a mb mc ra r bw bh B frm e v rv L m ad ad2 cap2) : W.cell? ⟨ra, 3, none⟩ = some (.slice ad2 L.length cap2) := by rw [← h.f]; exact h.p.ra.c3

set_option maxHeartbeats 4000000 in
set_option maxRecDepth 100000 in
theorem sameAlloc_any (h : Pl W N0 a mb mc ra r bw bh B frm e v rv L m) (hle : e ≤ frm + 1000) :
    Calls Tryd.prog 24 #[.pointer (some ⟨a, 0, none⟩), .pointer (some ⟨ra, 0, none⟩)] W fun en w' => en = .returned (.bool true) ∧ Below W.heap.size W w' := by
  have hcl := h.al.ch.le
  have TD := Lib.hid (told_any h.al.al (by omega) 1000 (by omega))
  have e1000 : L.take 1000 = L := List.take_of_length_le (by omega)
  have E1 := Lib.hid e1000
  obtain ⟨ad2, cap2, hrv, hy, hF⟩ := told_ref h.ra.row
  clear hF
  have HP := Lib.hid h
  have HY := Lib.hid (And.intro hrv hy)
  obtain ⟨U, hU⟩ : ∃ U, U = usedOf L := ⟨_, rfl⟩
  obtain ⟨D, hD⟩ : ∃ D, D = longest (gaps e frm L) := ⟨_, rfl⟩
  have HU := Lib.hid hU
  have HD := Lib.hid hD
  obtain ⟨N, hN⟩ : ∃ N, N = L.length := ⟨_, rfl⟩
  have HN := Lib.hid hN
  rw [← hN] at hcl
  have tU : (U != U) = false := bne_self_eq_false U
  have tD : (D != D) = false := bne_self_eq_false D
  have tN : (N != N) = false := bne_self_eq_false N
  have tN2 : ((N : Int) != (N : Int)) = false := bne_self_eq_false (N : Int)
  clear h e1000 hrv hy hU hD hN
  go_enter Tryd.func24, Tryd.ntmps24
  go_wp2_with fail
  go_at_call 31
  refine TD.out.mono ?_
  rintro en w1 ⟨v1, rfl, hr1, hb1⟩
  rw [E1.out] at hr1
  obtain ⟨ad, cap, rfl, hx1⟩ := told_slice hr1
  have S1 := Lib.hid (show Sm w1 N0 a mb mc ra r bw bh B frm e v rv L m ad ad2 cap2 from ⟨HP.out.below hb1, hx1, HY.out.2.below hb1, HY.out.1⟩)
  have B1 := Lib.hid hb1
  have c31 := S1.out.c3
  have US1 := S1.out.p.al.used
  rw [← HU.out] at US1
  have US := Lib.hid US1
  rw [← HN.out] at c31 ⊢
  clear hr1 hx1 hb1 US1
  go_wp2_with fail
  go_at_call 29
  refine US.out.mono ?_
  rintro en w2 ⟨rfl, b2⟩
  have S2 := Lib.hid (S1.out.below b2)
  have B2 := Lib.hid (B1.out.trans (b2.mono B1.out.size))
  have RU1 := refUsed S2.out.p.ra S2.out.p.al.ch S2.out.p.al.h0 S2.out.p.al.he
  rw [← HU.out] at RU1
  have RU := Lib.hid RU1
  have WD1 := S2.out.p.al.widest
  rw [← HD.out] at WD1
  have WD := Lib.hid WD1
  clear b2 RU1 WD1
  go_wp2_with (first | (go_at_call 46; refine RU.out.mono ?_; rintro en w' ⟨rfl, rfl⟩))
  go_at_call 30
  refine WD.out.mono ?_
  rintro en w3 ⟨rfl, b3⟩
  have S3 := Lib.hid (S2.out.below b3)
  have B3 := Lib.hid (B2.out.trans (b3.mono B2.out.size))
  have RD1 := refWidest S3.out.p.ra S3.out.p.al.ch S3.out.p.al.h0 S3.out.p.al.he
  rw [← HD.out] at RD1
  have RD := Lib.hid RD1
  clear b3 RD1
  go_wp2_with fail
  go_at_call 47
  refine RD.out.mono ?_
  rintro en w4 ⟨rfl, b4⟩
  have S4 := Lib.hid (S3.out.below b4)
  have B4 := Lib.hid (B3.out.trans (b4.mono B3.out.size))
  clear b4
  go_wp2_with fail
  go_loopw [6] (fun vi wr => ∃ i : Nat, i ≤ N ∧ vi = .int .i64 i ∧ Hid (Sm wr N0 a mb mc ra r bw bh B frm e v rv L m ad ad2 cap2) ∧ Hid (Below W.heap.size W wr)) (fun vi _ => N - (intOf vi).toNat)
  case atStart => exact ⟨0, by omega, rfl, S4, B4⟩
  case round =>
    obtain ⟨i, hi, rfl, hs, hbl⟩ := hrel
    by_cases hlt : i < N
    · obtain ⟨g, rfl, _, c0, c1, c2⟩ := hs.out.x i (by rw [← HN.out]; exact hlt)
      obtain ⟨g2, rfl, _, d0, d1, d2⟩ := hs.out.y i (by rw [← HN.out]; exact hlt)
      have c3 := hs.out.c3
      rw [← HN.out] at c3
      obtain ⟨b, hb⟩ : ∃ b, b = L.getD i blk0 := ⟨_, rfl⟩
      rw [← hb] at c0 c1 c2 d0 d1 d2
      have t0 : (b.p != b.p) = false := bne_self_eq_false b.p
      have t1 : (b.n != b.n) = false := bne_self_eq_false b.n
      have t2 : (b.k != b.k) = false := bne_self_eq_false b.k
      clear hb
      go_wp2_with fail
      go_quiet (fail)
      have hb5 := below_drewN wr nq
      have S5 := Lib.hid (hs.out.below hb5)
      have B5 := Lib.hid (hbl.out.trans (hb5.mono hbl.out.size))
      clear hb5
      go_wp2_with fail
      go_roundw
      case rel => exact ⟨i + 1, by omega, by go_num, S5, B5⟩
      case measure => simp [intOf]; omega
    · go_wp2_with fail
      go_ret
      exact ⟨rfl, hbl.out⟩
end
end Go.Proofs.YtlodelcenejfhaaDoor

namespace Go.Proofs.YtlodelcenejfhaaDoor
open Go.RowKit Go.Shelf Go.ChangeShapes Go.WideShapes
set_option linter.unusedVariables false

/-- A slice of calls: at each place its four fields. -/
def OpsIn (W : World) (A : Option Addr) (len : Nat) : Prop := ∀ i, i < len → ∃ p, A = some p ∧ p.block < W.heap.size ∧ ∃ (d n k x : Int),
  (W.cell? (p.add (i * 4)) = some (.int .i64 d) ∧ W.cell? ⟨(p.add (i * 4)).block, (p.add (i * 4)).off + 1, none⟩ = some (.int .i64 n) ∧ W.cell? ⟨(p.add (i * 4)).block, (p.add (i * 4)).off + 2, none⟩ = some (.int .i64 k) ∧ W.cell? ⟨(p.add (i * 4)).block, (p.add (i * 4)).off + 3, none⟩ = some (.int .i64 x))
theorem ops_of_trod {H : Type} {enc : TypeId × Value → H} {W : World} {A : Option Addr} {len cap : Nat} {d : DataW H} {p : List MemPlace} (h : DataW.Trod enc Tryd.prog W 0 (fun _ => true) true 22 (.slice A len cap) d p) : len ≤ maxLen ∧ OpsIn W A len := by
  obtain ⟨hl, hi⟩ := structs_of_trod Tryd.underlying22 Tryd.underlying40 (by kernel_rfl) (by kernel_rfl) (by decide) h
  refine ⟨hl, fun i hlt => ?_⟩
  obtain ⟨p, e, hb, hf⟩ := hi i hlt
  obtain ⟨x0, e0, w0⟩ := hf 0 _ .i64 rfl Tryd.underlying3
  obtain ⟨x1, e1, w1⟩ := hf 1 _ .i64 rfl Tryd.underlying3
  obtain ⟨x2, e2, w2⟩ := hf 2 _ .i64 rfl Tryd.underlying3
  obtain ⟨x3, e3, w3⟩ := hf 3 _ .i64 rfl Tryd.underlying3
  have at_ : ∀ j x, 0 < j → W.cell? (p.add (i * 4 + j)) = some x → W.cell? ⟨(p.add (i * 4)).block, (p.add (i * 4)).off + j, none⟩ = some x := fun j x hj h => by
    rw [← Go.Deep.add_add, add_pos _ _ hj] at h; exact h
  exact ⟨p, e, hb, x0, x1, x2, x3, e0, at_ 1 _ (by omega) e1, at_ 2 _ (by omega) e2, at_ 3 _ (by omega) e3⟩

set_option maxHeartbeats 400000 in
theorem refAllocNew (mb : Nat) (frm e : Int) (h0 : 0 ≤ frm) (h1 : frm ≤ e) (w : World) : Calls Tryd.prog 14 #[.pointer (some ⟨mb, 0, none⟩), .int .i64 frm, .int .i64 e] w fun en w' =>
    en = .returned (.tuple #[.pointer (some ⟨w.heap.size, 0, none⟩), .pointer none]) ∧ w' = w.alloc (.cells #[.pointer (some ⟨mb, 0, none⟩), .int .i64 frm, .int .i64 e, .slice none 0 0] 84) := by
  go_enter Tryd.func14, Tryd.ntmps14
  go_wp2
  go_ret2
  exact ⟨rfl, rfl⟩

/-- Two new allocators over two new memories. -/
theorem pl_new {w w1 w2 : World} {mb mc r bw bh : Nat} {frm e : Int} (hm : MemAt w1 mb mc { ws := List.replicate 80 0, hs := List.replicate 80 0, n := 0 } 0) (hb1 : Below w.heap.size w w1) (x1 : w.heap.size ≤ mb) (x2 : w.heap.size ≤ mc)
    (hr : RefMem w2 r bw bh { ws := List.replicate 80 0, hs := List.replicate 80 0, n := 0 }) (hb2 : Below w1.heap.size w1 w2) (y1 : w1.heap.size ≤ r) (y2 : w1.heap.size ≤ bw) (y3 : w1.heap.size ≤ bh) (hE : ErrType w) (h0 : 0 ≤ frm) (h1 : frm ≤ e) (h2 : e < 2147483648) :
    PlS 80 w.heap.size w2.heap.size mb mc (w2.heap.size + 1) r bw bh (w2.heap.size + 2) frm e
      ((w2.alloc (.cells #[.pointer (some ⟨mb, 0, none⟩), .int .i64 frm, .int .i64 e, .slice none 0 0] 81)).alloc (.cells #[.pointer (some ⟨r, 0, none⟩), .int .i64 frm, .int .i64 e, .slice none 0 0] 84)) := by
  have l1 := hm.top.lt
  have l2 := hm.lt
  have l3 := hr.top.lt
  have l4 := hr.rw.lt
  have l5 := hr.rh.lt
  have l6 := cell_lt hE
  have s1 := hb1.size
  have s2 := hb2.size
  have n1 := hr.n1
  have n2 := hr.n2
  have n3 := hr.n3
  have n4 := hm.ne
  have A0 : AllocAt (w2.alloc (.cells #[.pointer (some ⟨mb, 0, none⟩), .int .i64 frm, .int .i64 e, .slice none 0 0] 81)) w2.heap.size mb (w2.heap.size + 2) frm e (.slice none 0 0) [] := AllocAt.new w2 mb _ frm e
  have bx : Below (w2.alloc (.cells #[.pointer (some ⟨mb, 0, none⟩), .int .i64 frm, .int .i64 e, .slice none 0 0] 81)).heap.size (w2.alloc (.cells #[.pointer (some ⟨mb, 0, none⟩), .int .i64 frm, .int .i64 e, .slice none 0 0] 81)) ((w2.alloc (.cells #[.pointer (some ⟨mb, 0, none⟩), .int .i64 frm, .int .i64 e, .slice none 0 0] 81)).alloc (.cells #[.pointer (some ⟨r, 0, none⟩), .int .i64 frm, .int .i64 e, .slice none 0 0] 84)) := (Below.refl _ _).alloc (Nat.le_refl _) _
  have by2 : Below w2.heap.size w2 ((w2.alloc (.cells #[.pointer (some ⟨mb, 0, none⟩), .int .i64 frm, .int .i64 e, .slice none 0 0] 81)).alloc (.cells #[.pointer (some ⟨r, 0, none⟩), .int .i64 frm, .int .i64 e, .slice none 0 0] 84)) := ((Below.refl _ _).alloc (Nat.le_refl _) _).alloc (by simp) _
  have ct : countNZ (List.replicate 80 0) = 0 := by kernel_rfl
  have hm2 : MemAt ((w2.alloc (.cells #[.pointer (some ⟨mb, 0, none⟩), .int .i64 frm, .int .i64 e, .slice none 0 0] 81)).alloc (.cells #[.pointer (some ⟨r, 0, none⟩), .int .i64 frm, .int .i64 e, .slice none 0 0] 84)) mb mc { ws := List.replicate 80 0, hs := List.replicate 80 0, n := 0 } (countNZ (List.replicate 80 0)) := by
    rw [ct]; exact (hm.only (F := []) (Only.of_below hb2) (by simp) (by simp)).only (F := []) (Only.of_below by2) (by simp) (by simp)
  have rr := Row.new (w2.alloc (.cells #[.pointer (some ⟨mb, 0, none⟩), .int .i64 frm, .int .i64 e, .slice none 0 0] 81)) [.pointer (some ⟨r, 0, none⟩), .int .i64 frm, .int .i64 e, .slice none 0 0] 84
  rw [World.size_alloc] at rr
  refine ⟨.slice none 0 0, .slice none 0 0, [], _, ⟨⟨by omega, by omega, by omega, by omega, by omega, by omega, by omega, by omega⟩, ⟨A0.below bx, hm2, Good.fresh 80 (by omega), by omega, by omega, by omega, by omega, by omega, by simp, by simpa [Chain] using h1, h0, h2⟩, hr.only (F := []) (Only.of_below by2) (by simp) (by simp) (by simp), ⟨rr, World.ownsRow_nil _ _ _ _⟩, errType_below (by2.mono (show w.heap.size ≤ w2.heap.size by omega)) (errType_below (hb2.mono s1) (errType_below hb1 hE l6) l6) l6, fun g hg => by simp [Value.ownBlock] at hg⟩, by simp⟩

theorem opbox4 {w : World} {x : Nat} {d n k y : Int} (h : Row w x [.int .i64 d, .int .i64 n, .int .i64 k, .int .i64 y]) :
    w.cell? ⟨x, 0, none⟩ = some (.int .i64 d) ∧ w.cell? ⟨x, 1, none⟩ = some (.int .i64 n) ∧ w.cell? ⟨x, 2, none⟩ = some (.int .i64 k) ∧ w.cell? ⟨x, 3, none⟩ = some (.int .i64 y) :=
  ⟨h.cell 0 (by simp), h.cell 1 (by simp), h.cell 2 (by simp), h.cell 3 (by simp)⟩

set_option maxHeartbeats 8000000 in
set_option maxRecDepth 100000 in
theorem allocPlays_walk (f0 t0 : Int) (_h0 : (Lit.int .i64 f0).wf = true) (_h1 : (Lit.int .i64 t0).wf = true) (w : World) (A : Option Addr) (len cap : Nat) (hl : len ≤ maxLen) (hs : OpsIn w A len) (hE : ErrType w) :
    Calls Tryd.prog 3 #[.int .i64 f0, .int .i64 t0, .slice A len cap] w fun e w' => e = .returned (.bool true) ∧ Below w.heap.size w w' := by
  have hel := cell_lt hE
  have q1 := Int.emod_nonneg f0 (show (20 : Int) ≠ 0 by omega)
  have q2 := Int.emod_lt_of_pos f0 (show (0 : Int) < 20 by omega)
  have q3 := Int.emod_nonneg t0 (show (70 : Int) ≠ 0 by omega)
  have q4 := Int.emod_lt_of_pos t0 (show (0 : Int) < 70 by omega)
  have WF := Lib.hid (fun W => within_any f0 20 (by omega) (by omega) W)
  have WT := Lib.hid (fun W => within_any t0 70 (by omega) (by omega) W)
  have W80 := Lib.hid (fun z W => within_any z 80 (by omega) (by omega) W)
  have W5 := Lib.hid (fun z W => within_any z 5 (by omega) (by omega) W)
  obtain ⟨frm, hfrm⟩ : ∃ frm, frm = f0 % 20 := ⟨_, rfl⟩
  obtain ⟨q, hq⟩ : ∃ q, q = t0 % 70 := ⟨_, rfl⟩
  rw [← hfrm] at q1 q2 WF
  rw [← hq] at q3 q4 WT
  have v1 : IntKind.i64.wrap (frm + q) = frm + q := by rw [IntKind.wrap_i64]; omega
  unfold maxLen at hl
  have S0 := Lib.hid hs
  have NP := Lib.hid (memNew 80 (by omega) (by omega) w)
  clear hs hfrm hq _h0 _h1
  go_enter Tryd.func3, Tryd.ntmps3
  go_wp2_with fail
  go_at_call 10
  with_reducible refine (WF.out _).mono ?_
  rintro e w' ⟨rfl, rfl⟩
  go_wp2_with fail
  go_at_call 10
  with_reducible refine (WT.out _).mono ?_
  rintro e w' ⟨rfl, rfl⟩
  go_wp2_with fail
  go_at_call 11
  refine NP.out.mono ?_
  rintro e w1 ⟨mb, mc, rfl, hm, hb1, hx1, hx2⟩
  have NR := Lib.hid (refNew 80 (by omega) (by omega) w1)
  have M := Lib.hid hm
  clear hm
  go_wp2_with fail
  go_at_call 12
  refine NR.out.mono ?_
  rintro e w2 ⟨r, bw, bh, rfl, hr, hbr, hr1, hr2, hr3⟩
  obtain ⟨en, hen⟩ : ∃ en, en = frm + q := ⟨_, rfl⟩
  rw [← hen] at v1 ⊢
  have P0 := Lib.hid (pl_new M.out hb1 hx1 hx2 hr hbr hr1 hr2 hr3 hE q1 (show frm ≤ en by omega) (by omega))
  have B0 := Lib.hid (show Below w.heap.size w ((w2.alloc (.cells #[.pointer (some ⟨mb, 0, none⟩), .int .i64 frm, .int .i64 en, .slice none 0 0] 81)).alloc (.cells #[.pointer (some ⟨r, 0, none⟩), .int .i64 frm, .int .i64 en, .slice none 0 0] 84)) from
    ((hb1.trans (hbr.mono hb1.size)).alloc (by have := hb1.size; have := hbr.size; omega) _).alloc (by have := hb1.size; have := hbr.size; simp; omega) _)
  have AN := Lib.hid (allocNew mb frm en (by omega) (by omega) w2)
  have RN := Lib.hid (fun W => refAllocNew r frm en (by omega) (by omega) W)
  have en1 : frm ≤ en := by omega
  have en2 : en ≤ frm + 69 := by omega
  clear M hr hbr hb1 hen
  go_wp2_with fail
  go_at_call 13
  with_reducible refine AN.out.mono ?_
  rintro e w3 ⟨rfl, rfl⟩
  go_wp2_with fail
  go_at_call 14
  with_reducible refine (RN.out _).mono ?_
  rintro e w4 ⟨rfl, hw4⟩
  have P1 := P0.out
  have B1 := B0.out
  rw [← hw4] at P1 B1
  have HP1 := Lib.hid P1
  have HB1 := Lib.hid B1
  clear P1 B1 P0 B0 hw4 AN RN
  obtain ⟨a, ha⟩ : ∃ a, a = w2.heap.size := ⟨_, rfl⟩
  obtain ⟨ra, hra⟩ : ∃ ra, ra = w2.heap.size + 1 := ⟨_, rfl⟩
  obtain ⟨B, hB⟩ : ∃ B, B = w2.heap.size + 2 := ⟨_, rfl⟩
  rw [← ha] at HP1 hra hB
  rw [← hra, ← hB] at HP1
  rw [World.size_alloc, ← ha, ← hra]
  clear ha hra hB
  go_wp2_with fail
  go_loopw [15] (fun vi wr => ∃ i : Nat, i ≤ len ∧ i ≤ 60 ∧ vi = .int .i64 i ∧ Hid (PlS 80 w.heap.size a mb mc ra r bw bh B frm en wr) ∧ Hid (Below w.heap.size w wr)) (fun vi _ => 60 - (intOf vi).toNat)
  case atStart => exact ⟨0, by omega, by omega, rfl, HP1, HB1⟩
  case round =>
    obtain ⟨i, hi, hi60, rfl, hst, hbl⟩ := hrel
    by_cases hlt : i < len ∧ i < 60
    · obtain ⟨hlt1, hlt2⟩ := hlt
      obtain ⟨p, rfl, hp, d, n, k, x, f0', f1, f2, f3⟩ := S0.out i hlt1
      have pb : (p.add (i * 4)).block < w.heap.size := by rw [ChangeShapes.block_add]; exact hp
      have f0 : wr.cell? (p.add (i * 4)) = some (.int .i64 d) := by rw [hbl.out.cell pb]; exact f0'
      have f1 : wr.cell? ⟨(p.add (i * 4)).block, (p.add (i * 4)).off + 1, none⟩ = some (.int .i64 n) := by rw [hbl.out.cell (p := ⟨_, _, none⟩) pb]; exact f1
      have f2 : wr.cell? ⟨(p.add (i * 4)).block, (p.add (i * 4)).off + 2, none⟩ = some (.int .i64 k) := by rw [hbl.out.cell (p := ⟨_, _, none⟩) pb]; exact f2
      have f3 : wr.cell? ⟨(p.add (i * 4)).block, (p.add (i * 4)).off + 3, none⟩ = some (.int .i64 x) := by rw [hbl.out.cell (p := ⟨_, _, none⟩) pb]; exact f3
      obtain ⟨v, rv, L, m, hPl, hlen⟩ := hst.out
      obtain ⟨W1, hW1⟩ : ∃ W1, W1 = wr.alloc (.cells #[.int .i64 d, .int .i64 n, .int .i64 k, .int .i64 x] 40) := ⟨_, rfl⟩
      have XB := Row.new wr [.int .i64 d, .int .i64 n, .int .i64 k, .int .i64 x] 40
      have hb1 : Below wr.heap.size wr W1 := by rw [hW1]; exact (Below.refl _ _).alloc (Nat.le_refl _) _
      have P1 := Lib.hid (hPl.below hb1)
      have HMF := Lib.hid hPl.memF
      have BL1 := Lib.hid (hbl.out.trans (hb1.mono hbl.out.size))
      have HLEN := Lib.hid hlen
      have xat0 := Int.emod_nonneg x (show (80 : Int) ≠ 0 by omega)
      have xat1 := Int.emod_lt_of_pos x (show (0 : Int) < 80 by omega)
      have WX := Lib.hid (W80.out x)
      obtain ⟨at', hat⟩ : ∃ at', at' = x % 80 := ⟨_, rfl⟩
      rw [← hat] at WX xat0 xat1
      have d0 := Int.emod_nonneg d (show (5 : Int) ≠ 0 by omega)
      have d1 := Int.emod_lt_of_pos d (show (0 : Int) < 5 by omega)
      have WD := Lib.hid (W5.out d)
      obtain ⟨dd, hdd⟩ : ∃ dd, dd = d % 5 := ⟨_, rfl⟩
      rw [← hdd] at WD d0 d1
      obtain ⟨X, hX⟩ : ∃ X, X = wr.heap.size := ⟨_, rfl⟩
      have x0 : Row W1 X [.int .i64 d, .int .i64 n, .int .i64 k, .int .i64 x] := by rw [hX, hW1]; exact XB
      have XX := Lib.hid x0
      have XN := Lib.hid (show X ∉ allF a mb mc ra bw bh v from fun hm => by have := (HMF.out X hm).2; omega)
      clear f0' hPl XB hb1 hat hdd pb hst hlen
      go_wp2_with fail
      -- BEHIND THE BOX
      go_at_call 10
      rw [← hW1, ← hX]
      obtain ⟨k0, k1, k2, k3⟩ := opbox4 x0
      clear hW1 hX x0 f0 f1 f2 f3
      with_reducible refine (WX.out _).mono ?_
      rintro e w' ⟨rfl, rfl⟩
      go_wp2_with fail
      go_at_call 10
      with_reducible refine (WD.out _).mono ?_
      rintro e w' ⟨rfl, rfl⟩
      by_cases h2 : dd = 2
      · subst h2
        have hbd : Below W1.heap.size W1 W1.drew := (Below.refl _ _).drew
        have BLD := Lib.hid (BL1.out.trans (hbd.mono BL1.out.size))
        have DP0 := Duo.calls (duo_put (P1.out.below hbd) x)
        have DP := Lib.hid DP0
        have XD := Lib.hid XX.out.drew
        clear DP0 hbd
        go_wp2_with fail
        go_region_held3 (fun w' => w'.cell? ⟨X, 3, none⟩ = some (.int .i64 x)) (go_keep)
          (first
            | (go_at_call 16; ((with_reducible refine DP.out.mono ?_); rintro e w2' ⟨EV, rfl, o1, hR⟩; obtain ⟨j0, j1, j2, j3⟩ := opbox4 (XD.out.only o1 XN.out)))
            | (go_at_call 17; ((with_reducible refine hR.out.mono ?_); rintro e w2'' ⟨FV, rfl, o2, hS⟩; obtain ⟨j0, j1, j2, j3⟩ := opbox4 (XD.out.only o2 XN.out)))
            | (go_at_call 15; ((with_reducible refine hS.out.mono ?_); rintro e w3 ⟨rfl, o3, ps3⟩; obtain ⟨j0, j1, j2, j3⟩ := opbox4 (XD.out.only o3 XN.out))))
        all_goals
          have PS3 := Lib.hid (show PlS 80 w.heap.size a mb mc ra r bw bh B frm en w3 from by rw [← HLEN.out]; exact ps3)
          have BL3 := Lib.hid ((BLD.out).trans (o3.below (fun y hy => (HMF.out y hy).1) (BLD.out).size))
          clear o3 ps3
          obtain ⟨v3, rv3, L3, m3, hP3, hl3⟩ := PS3.out
          have SA := Lib.hid (sameAlloc_any hP3 (by omega))
          have HP3 := Lib.hid hP3
          have HL3 := Lib.hid hl3
          clear hP3 hl3 PS3
          go_wp2_with fail
          go_at_call 24
          with_reducible refine SA.out.mono ?_
          rintro e w5 ⟨rfl, b5⟩
          have hP5 := HP3.out.below b5
          have t1 := memThere hP5.al.me
          have t2 := refThere hP5.rm hP5.al.g.small
          obtain ⟨T, hT⟩ : ∃ T, T = countNZ m3.ws := ⟨_, rfl⟩
          rw [← hT] at t1 t2
          have tT : (T != T) = false := bne_self_eq_false T
          have T1 := Lib.hid t1
          have T2 := Lib.hid t2
          have P5 := Lib.hid hP5
          have BL5 := Lib.hid (BL3.out.trans (b5.mono BL3.out.size))
          clear hP5 t1 t2 hT b5
          go_wp2_with fail
          go_at_call 25
          with_reducible refine T1.out.mono ?_
          rintro e w6 ⟨rfl, rfl⟩
          go_wp2_with fail
          go_at_call 26
          with_reducible refine T2.out.mono ?_
          rintro e w7 ⟨rfl, rfl⟩
          go_wp2_with fail
          go_roundw
          case rel => exact ⟨i + 1, by omega, by omega, by go_num, Lib.hid ⟨v3, rv3, L3, m3, P5.out, HL3.out⟩, BL5⟩
          case measure => simp [intOf]; omega
      have e2 : (dd == 2) = false := beq_eq_false_iff_ne.2 h2
      by_cases h3 : dd = 3
      · subst h3
        have DP0 := Duo.calls (duo_map P1.out at' (by omega))
        have DP := Lib.hid DP0
        clear DP0
        go_wp2_with fail
        go_at_call 18
        with_reducible refine DP.out.mono ?_
        rintro e w2' ⟨EV, rfl, o1, hR⟩
        clear o1
        go_wp2_with fail
        go_at_call 19
        with_reducible refine hR.out.mono ?_
        rintro e w2'' ⟨FV, rfl, o2, hS⟩
        clear o2
        go_wp2_with fail
        go_at_call 15
        with_reducible refine hS.out.mono ?_
        rintro e w3 ⟨rfl, o3, ps3⟩
        have PS3 := Lib.hid (show PlS 80 w.heap.size a mb mc ra r bw bh B frm en w3 from by rw [← HLEN.out]; exact ps3)
        have BL3 := Lib.hid ((BL1.out).trans (o3.below (fun y hy => (HMF.out y hy).1) (BL1.out).size))
        clear o3 ps3
        obtain ⟨v3, rv3, L3, m3, hP3, hl3⟩ := PS3.out
        have SA := Lib.hid (sameAlloc_any hP3 (by omega))
        have HP3 := Lib.hid hP3
        have HL3 := Lib.hid hl3
        clear hP3 hl3 PS3
        go_wp2_with fail
        go_at_call 24
        with_reducible refine SA.out.mono ?_
        rintro e w5 ⟨rfl, b5⟩
        have hP5 := HP3.out.below b5
        have t1 := memThere hP5.al.me
        have t2 := refThere hP5.rm hP5.al.g.small
        obtain ⟨T, hT⟩ : ∃ T, T = countNZ m3.ws := ⟨_, rfl⟩
        rw [← hT] at t1 t2
        have tT : (T != T) = false := bne_self_eq_false T
        have T1 := Lib.hid t1
        have T2 := Lib.hid t2
        have P5 := Lib.hid hP5
        have BL5 := Lib.hid (BL3.out.trans (b5.mono BL3.out.size))
        clear hP5 t1 t2 hT b5
        go_wp2_with fail
        go_at_call 25
        with_reducible refine T1.out.mono ?_
        rintro e w6 ⟨rfl, rfl⟩
        go_wp2_with fail
        go_at_call 26
        with_reducible refine T2.out.mono ?_
        rintro e w7 ⟨rfl, rfl⟩
        go_wp2_with fail
        go_roundw
        case rel => exact ⟨i + 1, by omega, by omega, by go_num, Lib.hid ⟨v3, rv3, L3, m3, P5.out, HL3.out⟩, BL5⟩
        case measure => simp [intOf]; omega
      have e3 : (dd == 3) = false := beq_eq_false_iff_ne.2 h3
      by_cases h4 : dd = 4
      · subst h4
        have DP0 := Duo.calls (duo_unmap P1.out at' (by omega))
        have DP := Lib.hid DP0
        clear DP0
        go_wp2_with fail
        go_at_call 20
        with_reducible refine DP.out.mono ?_
        rintro e w2' ⟨EV, rfl, o1, hR⟩
        clear o1
        go_wp2_with fail
        go_at_call 21
        with_reducible refine hR.out.mono ?_
        rintro e w2'' ⟨FV, rfl, o2, hS⟩
        clear o2
        go_wp2_with fail
        go_at_call 15
        with_reducible refine hS.out.mono ?_
        rintro e w3 ⟨rfl, o3, ps3⟩
        have PS3 := Lib.hid (show PlS 80 w.heap.size a mb mc ra r bw bh B frm en w3 from by rw [← HLEN.out]; exact ps3)
        have BL3 := Lib.hid ((BL1.out).trans (o3.below (fun y hy => (HMF.out y hy).1) (BL1.out).size))
        clear o3 ps3
        obtain ⟨v3, rv3, L3, m3, hP3, hl3⟩ := PS3.out
        have SA := Lib.hid (sameAlloc_any hP3 (by omega))
        have HP3 := Lib.hid hP3
        have HL3 := Lib.hid hl3
        clear hP3 hl3 PS3
        go_wp2_with fail
        go_at_call 24
        with_reducible refine SA.out.mono ?_
        rintro e w5 ⟨rfl, b5⟩
        have hP5 := HP3.out.below b5
        have t1 := memThere hP5.al.me
        have t2 := refThere hP5.rm hP5.al.g.small
        obtain ⟨T, hT⟩ : ∃ T, T = countNZ m3.ws := ⟨_, rfl⟩
        rw [← hT] at t1 t2
        have tT : (T != T) = false := bne_self_eq_false T
        have T1 := Lib.hid t1
        have T2 := Lib.hid t2
        have P5 := Lib.hid hP5
        have BL5 := Lib.hid (BL3.out.trans (b5.mono BL3.out.size))
        clear hP5 t1 t2 hT b5
        go_wp2_with fail
        go_at_call 25
        with_reducible refine T1.out.mono ?_
        rintro e w6 ⟨rfl, rfl⟩
        go_wp2_with fail
        go_at_call 26
        with_reducible refine T2.out.mono ?_
        rintro e w7 ⟨rfl, rfl⟩
        go_wp2_with fail
        go_roundw
        case rel => exact ⟨i + 1, by omega, by omega, by go_num, Lib.hid ⟨v3, rv3, L3, m3, P5.out, HL3.out⟩, BL5⟩
        case measure => simp [intOf]; omega
      have e4 : (dd == 4) = false := beq_eq_false_iff_ne.2 h4
      obtain ⟨P, hD⟩ := duo_get P1.out n k
      have DP0 := Duo.calls hD
      have DP := Lib.hid DP0
      have tP : (P != P) = false := bne_self_eq_false P
      clear DP0 hD
      go_wp2_with fail
      go_at_call 22
      with_reducible refine DP.out.mono ?_
      rintro e w2' ⟨EV, rfl, o1, hR⟩
      obtain ⟨j0, j1, j2, j3⟩ := opbox4 (XX.out.only o1 XN.out)
      clear o1
      go_wp2_with fail
      go_at_call 23
      with_reducible refine hR.out.mono ?_
      rintro e w2'' ⟨FV, rfl, o2, hS⟩
      clear o2
      go_wp2_with fail
      go_at_call 15
      with_reducible refine hS.out.mono ?_
      rintro e w3 ⟨rfl, o3, ps3⟩
      have PS3 := Lib.hid (show PlS 80 w.heap.size a mb mc ra r bw bh B frm en w3 from by rw [← HLEN.out]; exact ps3)
      have BL3 := Lib.hid ((BL1.out).trans (o3.below (fun y hy => (HMF.out y hy).1) (BL1.out).size))
      clear o3 ps3
      obtain ⟨v3, rv3, L3, m3, hP3, hl3⟩ := PS3.out
      have SA := Lib.hid (sameAlloc_any hP3 (by omega))
      have HP3 := Lib.hid hP3
      have HL3 := Lib.hid hl3
      clear hP3 hl3 PS3
      go_wp2_with fail
      go_at_call 24
      with_reducible refine SA.out.mono ?_
      rintro e w5 ⟨rfl, b5⟩
      have hP5 := HP3.out.below b5
      have t1 := memThere hP5.al.me
      have t2 := refThere hP5.rm hP5.al.g.small
      obtain ⟨T, hT⟩ : ∃ T, T = countNZ m3.ws := ⟨_, rfl⟩
      rw [← hT] at t1 t2
      have tT : (T != T) = false := bne_self_eq_false T
      have T1 := Lib.hid t1
      have T2 := Lib.hid t2
      have P5 := Lib.hid hP5
      have BL5 := Lib.hid (BL3.out.trans (b5.mono BL3.out.size))
      clear hP5 t1 t2 hT b5
      go_wp2_with fail
      go_at_call 25
      with_reducible refine T1.out.mono ?_
      rintro e w6 ⟨rfl, rfl⟩
      go_wp2_with fail
      go_at_call 26
      with_reducible refine T2.out.mono ?_
      rintro e w7 ⟨rfl, rfl⟩
      go_wp2_with fail
      go_roundw
      case rel => exact ⟨i + 1, by omega, by omega, by go_num, Lib.hid ⟨v3, rv3, L3, m3, P5.out, HL3.out⟩, BL5⟩
      case measure => simp [intOf]; omega
    · have hex : ¬ i < len ∨ (i < len ∧ ¬ i < 60) := by omega
      have AW := Lib.hid (awake_any wr (errType_kept hE hbl.out hel))
      clear hlt hst
      rcases hex with hx | ⟨hx, hx'⟩
      all_goals
        go_wp2_with fail
        go_at_call 27
        with_reducible refine AW.out.mono ?_
        rintro e w5 ⟨rfl, b5⟩
        go_wp2_with fail
        go_ret
        exact ⟨rfl, hbl.out.trans (b5.mono hbl.out.size)⟩
end Go.Proofs.YtlodelcenejfhaaDoor
