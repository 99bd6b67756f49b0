/- The document's blocks of cells (layer 3): contracts of Get: which error, or how the blocks lie behind it. The conditions: the blocks lie there over their memory, one behind the other between the two places, the second below 2^31. -/
import Derived.Test.YtlodelcenejfhaaDoorRefAlloc
import Derived.Test.YtlodelcenejfhaaDoorKeepIn
import Derived.Test.YtlodelcenejfhaaDoorRefMemMap
namespace Go.Proofs.YtlodelcenejfhaaDoor
open Go.RowKit Go.Shelf
set_option linter.unusedVariables false

theorem info_ref : (Tryd.prog.info? 97).map (fun i => (i.zero, i.size, i.bytes)) = some (some (.agg #[.int .i64 0, .int .i64 0, .int .i64 0]), 3, 24) := by kernel_rfl

/-- A slice of blocks that may be appended: nil, or cells that lie there. -/
def SrcB (w : World) (x : Value) (M : List Blk) : Prop := (x = .slice none 0 0 ∧ M = []) ∨ ∃ a c, x = .slice (some a) M.length c ∧ ∀ j u, (flat M)[j]? = some u → w.cell? (a.add j) = some u
theorem SrcB.below {w w' : World} {x : Value} {M : List Blk} (h : SrcB w x M) (hb : Below w.heap.size w w') : SrcB w' x M := by
  rcases h with h | ⟨a, c, h1, h2⟩
  · exact .inl h
  · exact .inr ⟨a, c, h1, fun j u hu => by
      have hc := h2 j u hu
      rw [hb.cell (World.block_lt_of_cell? _ _ hc)]; exact hc⟩
/-- Blocks appended to a slice of the call's own. -/
theorem run_app_ref {w : World} {B : Nat} {v x : Value} {L M : List Blk} (h : w.ownsRow B 97 3 v L.length (flat L)) (hx : SrcB w x M) (hs : L.length + M.length < 4294967296) (hB : B ≤ w.heap.size) (ty : TypeId) :
    ∃ v' w', (Builtin.append_ #[82, 82] ty #[v, x]).run Tryd.prog w = .ok v' w' ∧ w'.ownsRow B 97 3 v' (L ++ M).length (flat (L ++ M)) ∧ Below B w w' := by
  obtain ⟨i0, hi0, hz0, hz1, hz2⟩ := info_parts info_ref
  rcases hx with ⟨rfl, rfl⟩ | ⟨a, c, rfl, hc⟩
  · exact ⟨v, w, run_append_owned_none (P := Tryd.prog) w B 82 ty 97 i0 3 Tryd.underlying82 hi0 v L.length (flat L) h, by simpa using h, Below.refl _ _⟩
  · obtain ⟨v', w', hr, h2, h3, h4⟩ := run_append_own (P := Tryd.prog) w B 82 ty 97 i0 _ 3 24 Tryd.underlying82 hi0 hz0 hz1 hz2 rfl (by decide) v L.length (flat L) h a M.length c (flat M) (flat_length M) hc (flat_one M) (by unfold maxLen; omega) (by omega) hB
    exact ⟨v', w', hr, by rw [List.length_append, flat_append]; exact h2, (Below.refl B w).grown h3 hB (fun k e => (h.lt k e).1)⟩

/-- The front and the rest of a slice of blocks. -/
theorem src_take {w : World} {ad : Option Addr} {N cap : Nat} {L : List Blk} (hN : N = L.length) (hf : (ad = none ∧ L = [] ∧ cap = 0) ∨ ∃ g, ad = some ⟨g, 0, none⟩ ∧ L.length ≤ cap ∧ cap ≤ maxLen ∧ ∀ j u, (flat L)[j]? = some u → w.cell? ⟨g, j, none⟩ = some u) (i : Nat) (hi : i ≤ N) (c : Nat) :
    SrcB w (.slice ad i c) (L.take i) ∨ (ad = none ∧ i = 0) := by
  rcases hf with ⟨rfl, rfl, rfl⟩ | ⟨g, rfl, h1, h2, hc⟩
  · exact .inr ⟨rfl, by simp at hN; omega⟩
  · refine .inl (.inr ⟨⟨g, 0, none⟩, c, by rw [List.length_take, Nat.min_eq_left (by omega)], fun j u hu => ?_⟩)
    rw [add0]
    rw [flat_take, List.getElem?_take] at hu
    split at hu
    · exact hc j u hu
    · cases hu
theorem src_drop {w : World} {g : Nat} {L : List Blk} (hc : ∀ j u, (flat L)[j]? = some u → w.cell? ⟨g, j, none⟩ = some u) (i c : Nat) : SrcB w (.slice (some ⟨g, i * 3, none⟩) (L.length - i) c) (L.drop i) := by
  refine .inr ⟨⟨g, i * 3, none⟩, c, by rw [List.length_drop], fun j u hu => ?_⟩
  rw [flat_drop, List.getElem?_drop] at hu
  have e : (⟨g, i * 3, none⟩ : Addr).add j = ⟨g, i * 3 + j, none⟩ := by unfold Addr.add; split <;> simp_all
  rw [e]; exact hc _ u hu
theorem src_end {w : World} {g : Nat} {L : List Blk} (i c : Nat) (hi : i = L.length) : SrcB w (.slice (some ⟨g, 0, none⟩) 0 c) (L.drop i) := by
  have e : L.drop i = [] := List.drop_of_length_le (by omega)
  rw [e]
  exact .inr ⟨⟨g, 0, none⟩, c, rfl, fun j u hu => by simp [flat] at hu⟩

/-- What the document's Get and Put leave where they refuse. -/
def RefBad (n k : Int) (mk : Value → Value) (w : World) (e : Ending) (w' : World) : Prop := ∃ z, e = .returned (mk (.pointer (some ⟨z + 1 + 1, 0, none⟩))) ∧ FailBlk w' z allocS n k ∧ Below w.heap.size w w'
theorem refBad_of {n k : Int} {mk : Value → Value} {w w1 : World} (hb : Below w.heap.size w w1) : RefBad n k mk w (.returned (mk (.pointer (some ⟨w1.heap.size + 1 + 1, 0, none⟩))))
    (((w1.alloc (.cells #[.string allocS] 9)).alloc (.cells #[.int .i64 n] 3)).alloc (.cells #[.slice (some ⟨w1.heap.size, 0, none⟩) 1 1, .slice (some ⟨w1.heap.size + 1, 0, none⟩) 1 1, .int .i64 k] 88)) :=
  ⟨_, rfl, FailBlk.new w1 allocS n k, ((hb.alloc hb.size _).alloc (by have := hb.size; simp; omega) _).alloc (by have := hb.size; simp; omega) _⟩
abbrev mkG (F : Value) : Value := .tuple #[.int .i64 0, F]
/-- What they leave where the memory refuses. -/
def RefErr (l : List (ByteArray × Int)) (k : Int) (mk : Value → Value) (w : World) (e : Ending) (w' : World) : Prop := ∃ F, e = .returned (mk F) ∧ (∃ z, F = .pointer (some ⟨z, 0, none⟩)) ∧ FailAt w' F l k ∧ Below w.heap.size w w'

set_option maxHeartbeats 1000000 in
theorem refGet_arg (p : Value) (n k : Int) (h : n < 1 ∨ 4096 < n ∨ ¬ (k = 64 ∨ k = 32)) (w : World) :
    Calls Tryd.prog 23 #[p, .int .i64 n, .int .i64 k] w (RefBad 0 1 mkG w) := by
  have NN := Lib.hid (fun W => no_any allocS 0 1 W)
  have FIN := Lib.hid (refBad_of (n := 0) (k := 1) (mk := mkG) (Below.refl w.heap.size w))
  by_cases h1 : n < 1
  · clear h
    go_enter Tryd.func23, Tryd.ntmps23
    go_wp2_with (go_at_call 28; refine (NN.out _).mono ?_; rintro e w' ⟨rfl, rfl⟩)
    go_ret2
    exact FIN.out
  · by_cases h2 : 4096 < n
    · clear h
      go_enter Tryd.func23, Tryd.ntmps23
      go_wp2_with (go_at_call 28; refine (NN.out _).mono ?_; rintro e w' ⟨rfl, rfl⟩)
      go_ret2
      exact FIN.out
    · have h3 : (k != 32) = true := by simp; omega
      have h4 : (k != 64) = true := by simp; omega
      have h5 : ¬ (k = 32) := by omega
      have h6 : ¬ (k = 64) := by omega
      clear h
      go_enter Tryd.func23, Tryd.ntmps23
      go_wp2_with (go_at_call 28; refine (NN.out _).mono ?_; rintro e w' ⟨rfl, rfl⟩)
      go_ret2
      exact FIN.out

set_option maxHeartbeats 4000000 in
set_option maxRecDepth 100000 in
/-- No range is long enough. -/
theorem refGet_room64 {w : World} {a mb bw bh B : Nat} {frm e : Int} {v : Value} {L : List Blk} {m : Cells} (h : RefAl w a mb B frm e v L) (hm : RefMem w mb bw bh m) (hC : Chain e frm L) (h0 : 0 ≤ frm) (he : e < 2147483648) (n : Int) (h1 : 1 ≤ n) (h2 : n ≤ 4096) (hg : firstGap n (gaps e frm L) = none) :
    Calls Tryd.prog 23 #[.pointer (some ⟨a, 0, none⟩), .int .i64 n, .int .i64 64] w (RefBad 0 3 mkG w) := by
  obtain ⟨ad, cap, rfl, hB, hForm⟩ := told_ref h.row
  have hFm := Lib.hid hForm
  have hOwn := Lib.hid h.row.lt
  have XB := Lib.hid (And.intro h (And.intro hB hm))
  have c1 := h.c1
  have hsm := hC.le
  have HC := Lib.hid hC
  have HG := Lib.hid hg
  obtain ⟨N, hN⟩ : ∃ N, N = L.length := ⟨_, rfl⟩
  rw [← hN] at hsm
  have HN := Lib.hid hN
  clear h hm hC hB hForm hN hg
  go_enter Tryd.func23, Tryd.ntmps23
  go_wp2_with fail
  go_loopw [8, 9] (fun vf vi wr => ∃ (i : Nat) (f : Int), i ≤ N ∧ frm ≤ f ∧ f ≤ e ∧ vi = .int .i64 i ∧ vf = .int .i64 f ∧ Hid (Chain e f (L.drop i)) ∧ Hid (firstGap n (gaps e f (L.drop i)) = none) ∧ Hid (∀ j, j < i → (L.getD j blk0).p < f) ∧
      Hid (RefAl wr a mb B frm e (.slice ad L.length cap) L ∧ BlkIn wr ad L ∧ RefMem wr mb bw bh m) ∧ Hid (Below w.heap.size w wr)) (fun _ vi _ => N - (intOf vi).toNat)
  case atStart => exact ⟨0, frm, by omega, by omega, by have := HC.out.le; omega, rfl, rfl, Lib.hid (by simpa using HC.out), Lib.hid (by simpa using HG.out), Lib.hid (fun j hj => by omega), XB, Lib.hid (Below.refl _ _)⟩
  case round =>
    obtain ⟨i, f, hi, hf0, hfe, rfl, rfl, hch, hfo, hlo, hx, hbl⟩ := hrel
    have d3 := hx.out.1.c3
    have d2 := hx.out.1.c2
    have d0 := hx.out.1.c0
    rw [← HN.out] at d3
    by_cases hlt : i < N
    · obtain ⟨g, rfl, hgw, b0, b1, b2⟩ := hx.out.2.1 i (by rw [← HN.out]; exact hlt)
      have ed := drop_getD L i (by rw [← HN.out]; exact hlt)
      have hch' := hch.out
      have hfo' := hfo.out
      rw [ed] at hch' hfo'
      obtain ⟨b, hb⟩ : ∃ b, b = L.getD i blk0 := ⟨_, rfl⟩
      rw [← hb] at b0 b1 b2 hch' hfo'
      obtain ⟨q1, q2, q3⟩ := hch'
      rw [gaps, firstGap_cons] at hfo'
      have q4 := q3.le
      have Q3 := Lib.hid q3
      have v1 : IntKind.i64.wrap (b.p - f) = b.p - f := by rw [IntKind.wrap_i64]; omega
      have v2 : IntKind.i64.wrap (b.p + b.n) = b.p + b.n := by rw [IntKind.wrap_i64]; omega
      by_cases hfit : n ≤ b.p - f
      · rw [if_pos hfit] at hfo'
        cases hfo'
      · rw [if_neg hfit] at hfo'
        have F2 := Lib.hid hfo'
        have LO := Lib.hid (show ∀ j, j < i + 1 → (L.getD j blk0).p < b.p + b.n from fun j hj => by
          by_cases hji : j < i
          · have := hlo.out j hji; omega
          · obtain rfl : j = i := by omega
            rw [← hb]; omega)
        have e1 : b.p - f < n := by omega
        clear hb q3 hfo' hch hfo ed hlo
        go_wp2_with fail
        go_quiet (fail)
        have hb1 := below_drewN wr nq
        have XB1 := Lib.hid (And.intro (hx.out.1.below hb1) (And.intro (hx.out.2.1.below hb1) (hx.out.2.2.drewN nq)))
        have HB1 := Lib.hid (hbl.out.trans (hb1.mono hbl.out.size))
        clear hb1
        go_wp2_with fail
        go_roundw
        case rel => exact ⟨i + 1, b.p + b.n, by omega, by omega, by omega, by go_num, rfl, Q3, F2, LO, XB1, HB1⟩
        case measure => simp [intOf]; omega
    · obtain rfl : i = N := by omega
      have ed : L.drop i = [] := List.drop_of_length_le (by rw [← HN.out]; omega)
      have hfo' := hfo.out
      rw [ed, gaps, firstGap_cons, firstGap_nil] at hfo'
      have v1 : IntKind.i64.wrap (e - f) = e - f := by rw [IntKind.wrap_i64]; omega
      by_cases hfit : n ≤ e - f
      · rw [if_pos hfit] at hfo'
        cases hfo'
      · rw [if_neg hfit] at hfo'
        have NN := Lib.hid (fun W => no_any allocS 0 3 W)
        have FIN := Lib.hid (refBad_of (n := 0) (k := 3) (mk := mkG) hbl.out)
        have e1 : e - f < n := by omega
        clear hfo' hfo hch ed
        go_wp2_with (go_at_call 28; refine (NN.out _).mono ?_; rintro e w' ⟨rfl, rfl⟩)
        go_ret2
        exact FIN.out

set_option maxHeartbeats 4000000 in
set_option maxRecDepth 100000 in
/-- No range is long enough. -/
theorem refGet_room32 {w : World} {a mb bw bh B : Nat} {frm e : Int} {v : Value} {L : List Blk} {m : Cells} (h : RefAl w a mb B frm e v L) (hm : RefMem w mb bw bh m) (hC : Chain e frm L) (h0 : 0 ≤ frm) (he : e < 2147483648) (n : Int) (h1 : 1 ≤ n) (h2 : n ≤ 4096) (hg : firstGap n (gaps e frm L) = none) :
    Calls Tryd.prog 23 #[.pointer (some ⟨a, 0, none⟩), .int .i64 n, .int .i64 32] w (RefBad 0 3 mkG w) := by
  obtain ⟨ad, cap, rfl, hB, hForm⟩ := told_ref h.row
  have hFm := Lib.hid hForm
  have hOwn := Lib.hid h.row.lt
  have XB := Lib.hid (And.intro h (And.intro hB hm))
  have c1 := h.c1
  have hsm := hC.le
  have HC := Lib.hid hC
  have HG := Lib.hid hg
  obtain ⟨N, hN⟩ : ∃ N, N = L.length := ⟨_, rfl⟩
  rw [← hN] at hsm
  have HN := Lib.hid hN
  clear h hm hC hB hForm hN hg
  go_enter Tryd.func23, Tryd.ntmps23
  go_wp2_with fail
  go_loopw [8, 9] (fun vf vi wr => ∃ (i : Nat) (f : Int), i ≤ N ∧ frm ≤ f ∧ f ≤ e ∧ vi = .int .i64 i ∧ vf = .int .i64 f ∧ Hid (Chain e f (L.drop i)) ∧ Hid (firstGap n (gaps e f (L.drop i)) = none) ∧ Hid (∀ j, j < i → (L.getD j blk0).p < f) ∧
      Hid (RefAl wr a mb B frm e (.slice ad L.length cap) L ∧ BlkIn wr ad L ∧ RefMem wr mb bw bh m) ∧ Hid (Below w.heap.size w wr)) (fun _ vi _ => N - (intOf vi).toNat)
  case atStart => exact ⟨0, frm, by omega, by omega, by have := HC.out.le; omega, rfl, rfl, Lib.hid (by simpa using HC.out), Lib.hid (by simpa using HG.out), Lib.hid (fun j hj => by omega), XB, Lib.hid (Below.refl _ _)⟩
  case round =>
    obtain ⟨i, f, hi, hf0, hfe, rfl, rfl, hch, hfo, hlo, hx, hbl⟩ := hrel
    have d3 := hx.out.1.c3
    have d2 := hx.out.1.c2
    have d0 := hx.out.1.c0
    rw [← HN.out] at d3
    by_cases hlt : i < N
    · obtain ⟨g, rfl, hgw, b0, b1, b2⟩ := hx.out.2.1 i (by rw [← HN.out]; exact hlt)
      have ed := drop_getD L i (by rw [← HN.out]; exact hlt)
      have hch' := hch.out
      have hfo' := hfo.out
      rw [ed] at hch' hfo'
      obtain ⟨b, hb⟩ : ∃ b, b = L.getD i blk0 := ⟨_, rfl⟩
      rw [← hb] at b0 b1 b2 hch' hfo'
      obtain ⟨q1, q2, q3⟩ := hch'
      rw [gaps, firstGap_cons] at hfo'
      have q4 := q3.le
      have Q3 := Lib.hid q3
      have v1 : IntKind.i64.wrap (b.p - f) = b.p - f := by rw [IntKind.wrap_i64]; omega
      have v2 : IntKind.i64.wrap (b.p + b.n) = b.p + b.n := by rw [IntKind.wrap_i64]; omega
      by_cases hfit : n ≤ b.p - f
      · rw [if_pos hfit] at hfo'
        cases hfo'
      · rw [if_neg hfit] at hfo'
        have F2 := Lib.hid hfo'
        have LO := Lib.hid (show ∀ j, j < i + 1 → (L.getD j blk0).p < b.p + b.n from fun j hj => by
          by_cases hji : j < i
          · have := hlo.out j hji; omega
          · obtain rfl : j = i := by omega
            rw [← hb]; omega)
        have e1 : b.p - f < n := by omega
        clear hb q3 hfo' hch hfo ed hlo
        go_wp2_with fail
        go_quiet (fail)
        have hb1 := below_drewN wr nq
        have XB1 := Lib.hid (And.intro (hx.out.1.below hb1) (And.intro (hx.out.2.1.below hb1) (hx.out.2.2.drewN nq)))
        have HB1 := Lib.hid (hbl.out.trans (hb1.mono hbl.out.size))
        clear hb1
        go_wp2_with fail
        go_roundw
        case rel => exact ⟨i + 1, b.p + b.n, by omega, by omega, by omega, by go_num, rfl, Q3, F2, LO, XB1, HB1⟩
        case measure => simp [intOf]; omega
    · obtain rfl : i = N := by omega
      have ed : L.drop i = [] := List.drop_of_length_le (by rw [← HN.out]; omega)
      have hfo' := hfo.out
      rw [ed, gaps, firstGap_cons, firstGap_nil] at hfo'
      have v1 : IntKind.i64.wrap (e - f) = e - f := by rw [IntKind.wrap_i64]; omega
      by_cases hfit : n ≤ e - f
      · rw [if_pos hfit] at hfo'
        cases hfo'
      · rw [if_neg hfit] at hfo'
        have NN := Lib.hid (fun W => no_any allocS 0 3 W)
        have FIN := Lib.hid (refBad_of (n := 0) (k := 3) (mk := mkG) hbl.out)
        have e1 : e - f < n := by omega
        clear hfo' hfo hch ed
        go_wp2_with (go_at_call 28; refine (NN.out _).mono ?_; rintro e w' ⟨rfl, rfl⟩)
        go_ret2
        exact FIN.out

set_option maxHeartbeats 4000000 in
set_option maxRecDepth 100000 in
/-- The memory refuses. -/
theorem refGet_fail64 {w : World} {a mb bw bh B : Nat} {frm e : Int} {v : Value} {L : List Blk} {m : Cells} (h : RefAl w a mb B frm e v L) (hm : RefMem w mb bw bh m) (hC : Chain e frm L) (h0 : 0 ≤ frm) (he : e < 2147483648) (n : Int) (h1 : 1 ≤ n) (h2 : n ≤ 4096) (p n' k' : Int) (hg : firstGap n (gaps e frm L) = some p) (hM : ∀ w', RefMem w' mb bw bh m → Calls Tryd.prog 19 #[.pointer (some ⟨mb, 0, none⟩), .int .i64 p, .int .i64 n, .int .i64 64] w' (NoPost memS n' k' w')) :
    Calls Tryd.prog 23 #[.pointer (some ⟨a, 0, none⟩), .int .i64 n, .int .i64 64] w (RefErr [(allocS, p), (memS, n')] k' mkG w) := by
  obtain ⟨ad, cap, rfl, hB, hForm⟩ := told_ref h.row
  have hFm := Lib.hid hForm
  have hOwn := Lib.hid h.row.lt
  have XB := Lib.hid (And.intro h (And.intro hB hm))
  have c1 := h.c1
  have hsm := hC.le
  have HC := Lib.hid hC
  have HG := Lib.hid hg
  obtain ⟨N, hN⟩ : ∃ N, N = L.length := ⟨_, rfl⟩
  rw [← hN] at hsm
  have HN := Lib.hid hN
  clear h hm hC hB hForm hN hg
  go_enter Tryd.func23, Tryd.ntmps23
  go_wp2_with fail
  go_loopw [8, 9] (fun vf vi wr => ∃ (i : Nat) (f : Int), i ≤ N ∧ frm ≤ f ∧ f ≤ e ∧ vi = .int .i64 i ∧ vf = .int .i64 f ∧ Hid (Chain e f (L.drop i)) ∧ Hid (firstGap n (gaps e f (L.drop i)) = some p) ∧ Hid (∀ j, j < i → (L.getD j blk0).p < f) ∧
      Hid (RefAl wr a mb B frm e (.slice ad L.length cap) L ∧ BlkIn wr ad L ∧ RefMem wr mb bw bh m) ∧ Hid (Below w.heap.size w wr)) (fun _ vi _ => N - (intOf vi).toNat)
  case atStart => exact ⟨0, frm, by omega, by omega, by have := HC.out.le; omega, rfl, rfl, Lib.hid (by simpa using HC.out), Lib.hid (by simpa using HG.out), Lib.hid (fun j hj => by omega), XB, Lib.hid (Below.refl _ _)⟩
  case round =>
    obtain ⟨i, f, hi, hf0, hfe, rfl, rfl, hch, hfo, hlo, hx, hbl⟩ := hrel
    have d3 := hx.out.1.c3
    have d2 := hx.out.1.c2
    have d0 := hx.out.1.c0
    rw [← HN.out] at d3
    by_cases hlt : i < N
    · obtain ⟨g, rfl, hgw, b0, b1, b2⟩ := hx.out.2.1 i (by rw [← HN.out]; exact hlt)
      have ed := drop_getD L i (by rw [← HN.out]; exact hlt)
      have hch' := hch.out
      have hfo' := hfo.out
      rw [ed] at hch' hfo'
      obtain ⟨b, hb⟩ : ∃ b, b = L.getD i blk0 := ⟨_, rfl⟩
      rw [← hb] at b0 b1 b2 hch' hfo'
      obtain ⟨q1, q2, q3⟩ := hch'
      rw [gaps, firstGap_cons] at hfo'
      have q4 := q3.le
      have Q3 := Lib.hid q3
      have v1 : IntKind.i64.wrap (b.p - f) = b.p - f := by rw [IntKind.wrap_i64]; omega
      have v2 : IntKind.i64.wrap (b.p + b.n) = b.p + b.n := by rw [IntKind.wrap_i64]; omega
      by_cases hfit : n ≤ b.p - f
      · rw [if_pos hfit] at hfo'
        have e1 : decide (b.p - f < n) = false := by simp; omega
        have HBQ := Lib.hid (And.intro hb q3)
        clear hb q3
        obtain rfl : f = p := Option.some.inj hfo'
        have MP := Lib.hid (hM wr hx.out.2.2)
        have HBL := Lib.hid hbl.out
        clear hfo' hfo hch ed hM
        go_wp2_with fail
        go_at_call 19
        refine MP.out.mono ?_
        rintro en w5 ⟨rfl, hw5⟩
        have b5 : Below wr.heap.size wr w5 := by rw [hw5]; exact (((Below.refl _ _).alloc (Nat.le_refl _) _).alloc (by simp) _).alloc (by simp; omega) _
        have F5 : FailBlk w5 wr.heap.size memS n' k' := by rw [hw5]; exact FailBlk.new wr memS n' k'
        have IN := Lib.hid (in_some allocS f wr.heap.size memS n' k' w5 F5)
        have B5 := Lib.hid (HBL.out.trans (b5.mono HBL.out.size))
        clear hw5 b5 F5
        go_wp2_with fail
        go_at_call 40
        refine IN.out.mono ?_
        rintro en w6 ⟨F, rfl, ⟨zz, rfl⟩, hF, b6⟩
        have FIN := Lib.hid (show RefErr [(allocS, f), (memS, n')] k' mkG w (.returned (mkG (.pointer (some ⟨zz, 0, none⟩)))) w6 from ⟨_, rfl, ⟨_, rfl⟩, hF, B5.out.trans (b6.mono B5.out.size)⟩)
        clear hF b6
        go_wp2_with fail
        go_ret2
        exact FIN.out
      · rw [if_neg hfit] at hfo'
        have F2 := Lib.hid hfo'
        have LO := Lib.hid (show ∀ j, j < i + 1 → (L.getD j blk0).p < b.p + b.n from fun j hj => by
          by_cases hji : j < i
          · have := hlo.out j hji; omega
          · obtain rfl : j = i := by omega
            rw [← hb]; omega)
        have e1 : b.p - f < n := by omega
        clear hb q3 hfo' hch hfo ed hlo
        go_wp2_with fail
        go_quiet (fail)
        have hb1 := below_drewN wr nq
        have XB1 := Lib.hid (And.intro (hx.out.1.below hb1) (And.intro (hx.out.2.1.below hb1) (hx.out.2.2.drewN nq)))
        have HB1 := Lib.hid (hbl.out.trans (hb1.mono hbl.out.size))
        clear hb1
        go_wp2_with fail
        go_roundw
        case rel => exact ⟨i + 1, b.p + b.n, by omega, by omega, by omega, by go_num, rfl, Q3, F2, LO, XB1, HB1⟩
        case measure => simp [intOf]; omega
    · obtain rfl : i = N := by omega
      have ed : L.drop i = [] := List.drop_of_length_le (by rw [← HN.out]; omega)
      have hfo' := hfo.out
      rw [ed, gaps, firstGap_cons, firstGap_nil] at hfo'
      have v1 : IntKind.i64.wrap (e - f) = e - f := by rw [IntKind.wrap_i64]; omega
      by_cases hfit : n ≤ e - f
      · rw [if_pos hfit] at hfo'
        have e1 : decide (e - f < n) = false := by simp; omega
        obtain rfl : f = p := Option.some.inj hfo'
        have MP := Lib.hid (hM wr hx.out.2.2)
        have HBL := Lib.hid hbl.out
        clear hfo' hfo hch ed hM
        go_wp2_with fail
        go_at_call 19
        refine MP.out.mono ?_
        rintro en w5 ⟨rfl, hw5⟩
        have b5 : Below wr.heap.size wr w5 := by rw [hw5]; exact (((Below.refl _ _).alloc (Nat.le_refl _) _).alloc (by simp) _).alloc (by simp; omega) _
        have F5 : FailBlk w5 wr.heap.size memS n' k' := by rw [hw5]; exact FailBlk.new wr memS n' k'
        have IN := Lib.hid (in_some allocS f wr.heap.size memS n' k' w5 F5)
        have B5 := Lib.hid (HBL.out.trans (b5.mono HBL.out.size))
        clear hw5 b5 F5
        go_wp2_with fail
        go_at_call 40
        refine IN.out.mono ?_
        rintro en w6 ⟨F, rfl, ⟨zz, rfl⟩, hF, b6⟩
        have FIN := Lib.hid (show RefErr [(allocS, f), (memS, n')] k' mkG w (.returned (mkG (.pointer (some ⟨zz, 0, none⟩)))) w6 from ⟨_, rfl, ⟨_, rfl⟩, hF, B5.out.trans (b6.mono B5.out.size)⟩)
        clear hF b6
        go_wp2_with fail
        go_ret2
        exact FIN.out
      · rw [if_neg hfit] at hfo'
        cases hfo'

set_option maxHeartbeats 4000000 in
set_option maxRecDepth 100000 in
/-- The memory refuses. -/
theorem refGet_fail32 {w : World} {a mb bw bh B : Nat} {frm e : Int} {v : Value} {L : List Blk} {m : Cells} (h : RefAl w a mb B frm e v L) (hm : RefMem w mb bw bh m) (hC : Chain e frm L) (h0 : 0 ≤ frm) (he : e < 2147483648) (n : Int) (h1 : 1 ≤ n) (h2 : n ≤ 4096) (p n' k' : Int) (hg : firstGap n (gaps e frm L) = some p) (hM : ∀ w', RefMem w' mb bw bh m → Calls Tryd.prog 19 #[.pointer (some ⟨mb, 0, none⟩), .int .i64 p, .int .i64 n, .int .i64 32] w' (NoPost memS n' k' w')) :
    Calls Tryd.prog 23 #[.pointer (some ⟨a, 0, none⟩), .int .i64 n, .int .i64 32] w (RefErr [(allocS, p), (memS, n')] k' mkG w) := by
  obtain ⟨ad, cap, rfl, hB, hForm⟩ := told_ref h.row
  have hFm := Lib.hid hForm
  have hOwn := Lib.hid h.row.lt
  have XB := Lib.hid (And.intro h (And.intro hB hm))
  have c1 := h.c1
  have hsm := hC.le
  have HC := Lib.hid hC
  have HG := Lib.hid hg
  obtain ⟨N, hN⟩ : ∃ N, N = L.length := ⟨_, rfl⟩
  rw [← hN] at hsm
  have HN := Lib.hid hN
  clear h hm hC hB hForm hN hg
  go_enter Tryd.func23, Tryd.ntmps23
  go_wp2_with fail
  go_loopw [8, 9] (fun vf vi wr => ∃ (i : Nat) (f : Int), i ≤ N ∧ frm ≤ f ∧ f ≤ e ∧ vi = .int .i64 i ∧ vf = .int .i64 f ∧ Hid (Chain e f (L.drop i)) ∧ Hid (firstGap n (gaps e f (L.drop i)) = some p) ∧ Hid (∀ j, j < i → (L.getD j blk0).p < f) ∧
      Hid (RefAl wr a mb B frm e (.slice ad L.length cap) L ∧ BlkIn wr ad L ∧ RefMem wr mb bw bh m) ∧ Hid (Below w.heap.size w wr)) (fun _ vi _ => N - (intOf vi).toNat)
  case atStart => exact ⟨0, frm, by omega, by omega, by have := HC.out.le; omega, rfl, rfl, Lib.hid (by simpa using HC.out), Lib.hid (by simpa using HG.out), Lib.hid (fun j hj => by omega), XB, Lib.hid (Below.refl _ _)⟩
  case round =>
    obtain ⟨i, f, hi, hf0, hfe, rfl, rfl, hch, hfo, hlo, hx, hbl⟩ := hrel
    have d3 := hx.out.1.c3
    have d2 := hx.out.1.c2
    have d0 := hx.out.1.c0
    rw [← HN.out] at d3
    by_cases hlt : i < N
    · obtain ⟨g, rfl, hgw, b0, b1, b2⟩ := hx.out.2.1 i (by rw [← HN.out]; exact hlt)
      have ed := drop_getD L i (by rw [← HN.out]; exact hlt)
      have hch' := hch.out
      have hfo' := hfo.out
      rw [ed] at hch' hfo'
      obtain ⟨b, hb⟩ : ∃ b, b = L.getD i blk0 := ⟨_, rfl⟩
      rw [← hb] at b0 b1 b2 hch' hfo'
      obtain ⟨q1, q2, q3⟩ := hch'
      rw [gaps, firstGap_cons] at hfo'
      have q4 := q3.le
      have Q3 := Lib.hid q3
      have v1 : IntKind.i64.wrap (b.p - f) = b.p - f := by rw [IntKind.wrap_i64]; omega
      have v2 : IntKind.i64.wrap (b.p + b.n) = b.p + b.n := by rw [IntKind.wrap_i64]; omega
      by_cases hfit : n ≤ b.p - f
      · rw [if_pos hfit] at hfo'
        have e1 : decide (b.p - f < n) = false := by simp; omega
        have HBQ := Lib.hid (And.intro hb q3)
        clear hb q3
        obtain rfl : f = p := Option.some.inj hfo'
        have MP := Lib.hid (hM wr hx.out.2.2)
        have HBL := Lib.hid hbl.out
        clear hfo' hfo hch ed hM
        go_wp2_with fail
        go_at_call 19
        refine MP.out.mono ?_
        rintro en w5 ⟨rfl, hw5⟩
        have b5 : Below wr.heap.size wr w5 := by rw [hw5]; exact (((Below.refl _ _).alloc (Nat.le_refl _) _).alloc (by simp) _).alloc (by simp; omega) _
        have F5 : FailBlk w5 wr.heap.size memS n' k' := by rw [hw5]; exact FailBlk.new wr memS n' k'
        have IN := Lib.hid (in_some allocS f wr.heap.size memS n' k' w5 F5)
        have B5 := Lib.hid (HBL.out.trans (b5.mono HBL.out.size))
        clear hw5 b5 F5
        go_wp2_with fail
        go_at_call 40
        refine IN.out.mono ?_
        rintro en w6 ⟨F, rfl, ⟨zz, rfl⟩, hF, b6⟩
        have FIN := Lib.hid (show RefErr [(allocS, f), (memS, n')] k' mkG w (.returned (mkG (.pointer (some ⟨zz, 0, none⟩)))) w6 from ⟨_, rfl, ⟨_, rfl⟩, hF, B5.out.trans (b6.mono B5.out.size)⟩)
        clear hF b6
        go_wp2_with fail
        go_ret2
        exact FIN.out
      · rw [if_neg hfit] at hfo'
        have F2 := Lib.hid hfo'
        have LO := Lib.hid (show ∀ j, j < i + 1 → (L.getD j blk0).p < b.p + b.n from fun j hj => by
          by_cases hji : j < i
          · have := hlo.out j hji; omega
          · obtain rfl : j = i := by omega
            rw [← hb]; omega)
        have e1 : b.p - f < n := by omega
        clear hb q3 hfo' hch hfo ed hlo
        go_wp2_with fail
        go_quiet (fail)
        have hb1 := below_drewN wr nq
        have XB1 := Lib.hid (And.intro (hx.out.1.below hb1) (And.intro (hx.out.2.1.below hb1) (hx.out.2.2.drewN nq)))
        have HB1 := Lib.hid (hbl.out.trans (hb1.mono hbl.out.size))
        clear hb1
        go_wp2_with fail
        go_roundw
        case rel => exact ⟨i + 1, b.p + b.n, by omega, by omega, by omega, by go_num, rfl, Q3, F2, LO, XB1, HB1⟩
        case measure => simp [intOf]; omega
    · obtain rfl : i = N := by omega
      have ed : L.drop i = [] := List.drop_of_length_le (by rw [← HN.out]; omega)
      have hfo' := hfo.out
      rw [ed, gaps, firstGap_cons, firstGap_nil] at hfo'
      have v1 : IntKind.i64.wrap (e - f) = e - f := by rw [IntKind.wrap_i64]; omega
      by_cases hfit : n ≤ e - f
      · rw [if_pos hfit] at hfo'
        have e1 : decide (e - f < n) = false := by simp; omega
        obtain rfl : f = p := Option.some.inj hfo'
        have MP := Lib.hid (hM wr hx.out.2.2)
        have HBL := Lib.hid hbl.out
        clear hfo' hfo hch ed hM
        go_wp2_with fail
        go_at_call 19
        refine MP.out.mono ?_
        rintro en w5 ⟨rfl, hw5⟩
        have b5 : Below wr.heap.size wr w5 := by rw [hw5]; exact (((Below.refl _ _).alloc (Nat.le_refl _) _).alloc (by simp) _).alloc (by simp; omega) _
        have F5 : FailBlk w5 wr.heap.size memS n' k' := by rw [hw5]; exact FailBlk.new wr memS n' k'
        have IN := Lib.hid (in_some allocS f wr.heap.size memS n' k' w5 F5)
        have B5 := Lib.hid (HBL.out.trans (b5.mono HBL.out.size))
        clear hw5 b5 F5
        go_wp2_with fail
        go_at_call 40
        refine IN.out.mono ?_
        rintro en w6 ⟨F, rfl, ⟨zz, rfl⟩, hF, b6⟩
        have FIN := Lib.hid (show RefErr [(allocS, f), (memS, n')] k' mkG w (.returned (mkG (.pointer (some ⟨zz, 0, none⟩)))) w6 from ⟨_, rfl, ⟨_, rfl⟩, hF, B5.out.trans (b6.mono B5.out.size)⟩)
        clear hF b6
        go_wp2_with fail
        go_ret2
        exact FIN.out
      · rw [if_neg hfit] at hfo'
        cases hfo'

/-- The three appends of Get: the front, the new block, the rest. -/
theorem refApp3 {w5 : World} {x1 x3 : Value} {L : List Blk} (i : Nat) (hs : L.length < 2147483649) (b : Blk) (h1 : SrcB w5 x1 (L.take i)) (h3 : SrcB w5 x3 (L.drop i)) : ∃ v1 w6 v2 w8 ad l c w9,
    (Builtin.append_ #[82, 82] 82 #[.slice none 0 0, x1]).run Tryd.prog w5 = .ok v1 w6 ∧
    (Builtin.append_ #[82, 82] 82 #[v1, .slice (some ⟨w6.heap.size, 0, none⟩) 1 1]).run Tryd.prog (w6.alloc (.cells #[.int .i64 b.p, .int .i64 b.n, .int .i64 b.k] 97)) = .ok v2 w8 ∧
    (Builtin.append_ #[82, 82] 82 #[v2, x3]).run Tryd.prog w8 = .ok (.slice ad l c) w9 ∧
    w9.ownsRow w5.heap.size 97 3 (.slice ad l c) (L.take i ++ b :: L.drop i).length (flat (L.take i ++ b :: L.drop i)) ∧ Below w5.heap.size w5 w6 ∧ Below w5.heap.size w5 w8 ∧ Below w5.heap.size w5 w9 := by
  obtain ⟨v1, w6, r1, o1, b1⟩ := run_app_ref (w := w5) (B := w5.heap.size) (L := []) (World.ownsRow_nil _ _ _ _) h1 (by simp; omega) (Nat.le_refl _) 82
  have s1 := b1.size
  have hn := heap_alloc_new w6 (.cells #[.int .i64 b.p, .int .i64 b.n, .int .i64 b.k] 97)
  have ha : Below w6.heap.size w6 (w6.alloc (.cells #[.int .i64 b.p, .int .i64 b.n, .int .i64 b.k] 97)) := (Below.refl _ _).alloc (Nat.le_refl _) _
  have o1' := ownsRow_only (F := []) o1 (Only.of_below ha) (fun g _ => by simp)
  rw [List.nil_append] at o1'
  have hx2 : SrcB (w6.alloc (.cells #[.int .i64 b.p, .int .i64 b.n, .int .i64 b.k] 97)) (.slice (some ⟨w6.heap.size, 0, none⟩) 1 1) [b] := by
    refine .inr ⟨_, 1, rfl, fun j u hu => ?_⟩
    rw [add0, cells_of hn j]
    simp only [flat] at hu
    rw [← hu]
    match j with
    | 0 => rfl
    | 1 => rfl
    | 2 => rfl
    | j + 3 => simp
  obtain ⟨v2, w8, r2, o2, b2⟩ := run_app_ref o1' hx2 (by simp; omega) (by have := ha.size; omega) 82
  have b58 : Below w5.heap.size w5 w8 := (b1.trans (ha.mono s1)).trans b2
  obtain ⟨v3, w9, r3, o3, b3⟩ := run_app_ref o2 (h3.below b58) (by simp; omega) b58.size 82
  obtain ⟨ad, l, c, rfl⟩ := ownsRow_slice o3
  refine ⟨v1, w6, v2, w8, ad, l, c, w9, r1, r2, r3, ?_, b1, b58, b58.trans b3⟩
  rw [List.append_assoc] at o3; exact o3
/-- The two appends of Put: the front, the rest behind the block. -/
theorem refApp2 {w5 : World} {x1 x3 : Value} {L : List Blk} (i : Nat) (hs : L.length < 2147483649) (h1 : SrcB w5 x1 (L.take i)) (h3 : SrcB w5 x3 (L.drop (i + 1))) : ∃ v1 w6 ad l c w9,
    (Builtin.append_ #[82, 82] 82 #[.slice none 0 0, x1]).run Tryd.prog w5 = .ok v1 w6 ∧
    (Builtin.append_ #[82, 82] 82 #[v1, x3]).run Tryd.prog w6 = .ok (.slice ad l c) w9 ∧
    w9.ownsRow w5.heap.size 97 3 (.slice ad l c) (L.take i ++ L.drop (i + 1)).length (flat (L.take i ++ L.drop (i + 1))) ∧ Below w5.heap.size w5 w6 ∧ Below w5.heap.size w5 w9 := by
  obtain ⟨v1, w6, r1, o1, b1⟩ := run_app_ref (w := w5) (B := w5.heap.size) (L := []) (World.ownsRow_nil _ _ _ _) h1 (by simp; omega) (Nat.le_refl _) 82
  rw [List.nil_append] at o1
  obtain ⟨v3, w9, r3, o3, b3⟩ := run_app_ref o1 (h3.below b1) (by simp; omega) b1.size 82
  obtain ⟨ad, l, c, rfl⟩ := ownsRow_slice o3
  exact ⟨v1, w6, ad, l, c, w9, r1, r3, o3, b1, b1.trans b3⟩
/-- What the document's Get leaves where it takes cells. -/
def RefDone (a mb bw bh B : Nat) (frm e : Int) (L' : List Blk) (m1 : Cells) (r : Value) (w : World) (en : Ending) (w' : World) : Prop := ∃ v', en = .returned r ∧ RefAl w' a mb B frm e v' L' ∧ RefMem w' mb bw bh m1 ∧ (∀ g, v'.ownBlock = some g → w.heap.size ≤ g) ∧ Only [a, bw, bh] w w'
theorem refDone_of {w w5 w9 : World} {a mb bw bh B : Nat} {frm e : Int} {v v' : Value} {L L' : List Blk} {m1 : Cells} (r : Value) (hA : RefAl w5 a mb B frm e v L) (hm : RefMem w5 mb bw bh m1) (hB : B ≤ w.heap.size) (ho : Only [bw, bh] w w5)
    (hr : w9.ownsRow w5.heap.size 97 3 v' L'.length (flat L')) (hb : Below w5.heap.size w5 w9) (n1 : a ≠ mb) (n2 : a ≠ bw) (n3 : a ≠ bh) :
    RefDone a mb bw bh B frm e L' m1 r w (.returned r) (w9.setCell ⟨a, 3, none⟩ v') := by
  have hal := hA.top.lt
  have s1 := ho.size
  have os : Only [a] w9 (w9.setCell ⟨a, 3, none⟩ v') := (Only.refl [a] w9).setCell (Or.inl (by simp)) v'
  have t9 := hA.top.only (F := []) (Only.of_below hb) (by simp)
  have m9 := hm.only (F := []) (Only.of_below hb) (by simp) (by simp) (by simp)
  refine ⟨v', rfl, ⟨by have := t9.set 3 (by simp) v'; simpa using this, ?_⟩, m9.only os (by simp; exact fun h => n1 h.symm) (by simp; exact fun h => n2 h.symm) (by simp; exact fun h => n3 h.symm), fun g hg => by have := (hr.lt g hg).1; omega, ?_⟩
  · exact ownsRow_only (ownsRow_base hr (by omega)) os (fun g hg => by have := (hr.lt g hg).1; simp; omega)
  · exact ((ho.mono (by simp)).trans (Only.of_below hb)).setCell (Or.inl (by simp)) v'

set_option maxHeartbeats 4000000 in
set_option maxRecDepth 100000 in
/-- The cells are taken. -/
theorem refGet_done64 {w : World} {a mb bw bh B : Nat} {frm e : Int} {v : Value} {L : List Blk} {m : Cells} (h : RefAl w a mb B frm e v L) (hm : RefMem w mb bw bh m) (hC : Chain e frm L) (h0 : 0 ≤ frm) (he : e < 2147483648) (n : Int) (h1 : 1 ≤ n) (h2 : n ≤ 4096) (p : Int) (m1 : Cells) (hg : firstGap n (gaps e frm L) = some p) (hBw : B ≤ w.heap.size) (n1 : a ≠ mb) (n2 : a ≠ bw) (n3 : a ≠ bh) (hv : ∀ g, v.ownBlock = some g → g ≠ bw ∧ g ≠ bh) (hM : ∀ w', RefMem w' mb bw bh m → Calls Tryd.prog 19 #[.pointer (some ⟨mb, 0, none⟩), .int .i64 p, .int .i64 n, .int .i64 64] w' fun en w'' => en = .returned (.pointer none) ∧ RefMem w'' mb bw bh m1 ∧ Only [bw, bh] w' w'') :
    Calls Tryd.prog 23 #[.pointer (some ⟨a, 0, none⟩), .int .i64 n, .int .i64 64] w (RefDone a mb bw bh B frm e (putIn ⟨p, n, 64⟩ L) m1 (.tuple #[.int .i64 p, .pointer none]) w) := by
  obtain ⟨ad, cap, rfl, hB, hForm⟩ := told_ref h.row
  have hFm := Lib.hid hForm
  have hOwn := Lib.hid h.row.lt
  have XB := Lib.hid (And.intro h (And.intro hB hm))
  have c1 := h.c1
  have hsm := hC.le
  have HC := Lib.hid hC
  have HG := Lib.hid hg
  obtain ⟨N, hN⟩ : ∃ N, N = L.length := ⟨_, rfl⟩
  rw [← hN] at hsm
  have HN := Lib.hid hN
  clear h hm hC hB hForm hN hg
  go_enter Tryd.func23, Tryd.ntmps23
  go_wp2_with fail
  go_loopw [8, 9] (fun vf vi wr => ∃ (i : Nat) (f : Int), i ≤ N ∧ frm ≤ f ∧ f ≤ e ∧ vi = .int .i64 i ∧ vf = .int .i64 f ∧ Hid (Chain e f (L.drop i)) ∧ Hid (firstGap n (gaps e f (L.drop i)) = some p) ∧ Hid (∀ j, j < i → (L.getD j blk0).p < f) ∧
      Hid (RefAl wr a mb B frm e (.slice ad L.length cap) L ∧ BlkIn wr ad L ∧ RefMem wr mb bw bh m) ∧ Hid (Below w.heap.size w wr)) (fun _ vi _ => N - (intOf vi).toNat)
  case atStart => exact ⟨0, frm, by omega, by omega, by have := HC.out.le; omega, rfl, rfl, Lib.hid (by simpa using HC.out), Lib.hid (by simpa using HG.out), Lib.hid (fun j hj => by omega), XB, Lib.hid (Below.refl _ _)⟩
  case round =>
    obtain ⟨i, f, hi, hf0, hfe, rfl, rfl, hch, hfo, hlo, hx, hbl⟩ := hrel
    have d3 := hx.out.1.c3
    have d2 := hx.out.1.c2
    have d0 := hx.out.1.c0
    rw [← HN.out] at d3
    by_cases hlt : i < N
    · obtain ⟨g, rfl, hgw, b0, b1, b2⟩ := hx.out.2.1 i (by rw [← HN.out]; exact hlt)
      have ed := drop_getD L i (by rw [← HN.out]; exact hlt)
      have hch' := hch.out
      have hfo' := hfo.out
      rw [ed] at hch' hfo'
      obtain ⟨b, hb⟩ : ∃ b, b = L.getD i blk0 := ⟨_, rfl⟩
      rw [← hb] at b0 b1 b2 hch' hfo'
      obtain ⟨q1, q2, q3⟩ := hch'
      rw [gaps, firstGap_cons] at hfo'
      have q4 := q3.le
      have Q3 := Lib.hid q3
      have v1 : IntKind.i64.wrap (b.p - f) = b.p - f := by rw [IntKind.wrap_i64]; omega
      have v2 : IntKind.i64.wrap (b.p + b.n) = b.p + b.n := by rw [IntKind.wrap_i64]; omega
      by_cases hfit : n ≤ b.p - f
      · rw [if_pos hfit] at hfo'
        have e1 : decide (b.p - f < n) = false := by simp; omega
        have HBQ := Lib.hid (And.intro hb q3)
        clear hb q3
        obtain rfl : f = p := Option.some.inj hfo'
        have hput : putIn ⟨f, n, 64⟩ L = L.take i ++ (⟨f, n, 64⟩ : Blk) :: L.drop i := putIn_at _ L i hlo.out (fun j hj1 hj2 => by
          have hu := (hch.out.up (j - i) (by simp; omega)).1
          have e2 : (L.drop i).getD (j - i) blk0 = L.getD j blk0 := by simp [List.getD, List.getElem?_drop, show i + (j - i) = j by omega]
          rw [e2] at hu; exact hu) (by rw [← HN.out]; omega)
        have HPUT := Lib.hid hput
        have MP := Lib.hid (hM wr hx.out.2.2)
        have HBL := Lib.hid hbl.out
        have HX := Lib.hid hx.out
        clear hfo' hfo hch ed hM hput hx hlo
        go_wp2_with fail
        go_at_call 19
        refine MP.out.mono ?_
        rintro en w5 ⟨rfl, hm5, ho5⟩
        have A5 := Lib.hid (HX.out.1.only ho5 (by simp; exact ⟨n2, n3⟩) (fun g hg => by have := hv g hg; simp; exact this))
        have M5 := Lib.hid hm5
        have O5 := Lib.hid ((Only.of_below (F := [bw, bh]) HBL.out).trans ho5)
        clear hm5 ho5
        obtain ⟨ad2, cap2, hve, _, hF5⟩ := told_ref A5.out.row
        cases hve
        rcases hF5 with ⟨hx0, _⟩ | ⟨g5, hx5, hnc, hcm, hcs⟩
        · cases hx0
        cases hx5
        rw [← HN.out] at hnc
        have hcap : ¬ (cap = i) := by omega
        have hcap0 : ¬ (cap = 0) := by omega
        have hic : i ≤ cap := by omega
        have hiN : i ≤ N := by omega
        have x3 := src_drop hcs i (cap - i)
        rw [← HN.out] at x3
        have x1 := (src_take (cap := cap) HN.out (.inr ⟨g, rfl, by rw [← HN.out]; omega, hcm, hcs⟩) i (by omega) cap).resolve_right (fun hh => by cases hh.1)
        obtain ⟨v1, w6, v2, w8, ad', l', c', w9, r1, r2, r3, o9, b6, b8, b9⟩ := refApp3 i (by rw [← HN.out]; omega) ⟨f, n, 64⟩ x1 x3
        clear hcs x1 x3
        have o5c3 := A5.out.c3
        rw [← HN.out] at o5c3
        have q1 := (b8.cell (p := ⟨a, 3, none⟩) A5.out.top.lt).trans o5c3
        have q2 : w9.frozen? ⟨a, 3, none⟩ = false := (b9.frozen (p := ⟨a, 3, none⟩) A5.out.top.lt).trans A5.out.f3
        have q3 := (b9.cell (p := ⟨a, 3, none⟩) A5.out.top.lt).trans o5c3
        have R1 := Lib.hid r1
        have R2 := Lib.hid r2
        have R3 := Lib.hid r3
        have FIN := Lib.hid (refDone_of (w := w) (.tuple #[.int .i64 f, .pointer none]) A5.out M5.out hBw O5.out (by rw [HPUT.out]; exact o9 : w9.ownsRow w5.heap.size 97 3 _ (putIn ⟨f, n, 64⟩ L).length (flat (putIn ⟨f, n, 64⟩ L))) b9 n1 n2 n3)
        clear r1 r2 r3 o9 b6 b8 b9
        go_wp2_with (first
          | (at_builtin; refine Lib.wpList_append_run _ rfl _ _ 82 82 rfl _ _ rfl rfl _ _ R1.out ?_)
          | (at_builtin; refine Lib.wpList_append_run _ rfl _ _ 82 82 rfl _ _ rfl rfl _ _ R2.out ?_)
          | (at_builtin; refine Lib.wpList_append_run _ rfl _ _ 82 82 rfl _ _ rfl rfl _ _ R3.out ?_))
        go_ret2
        exact FIN.out
      · rw [if_neg hfit] at hfo'
        have F2 := Lib.hid hfo'
        have LO := Lib.hid (show ∀ j, j < i + 1 → (L.getD j blk0).p < b.p + b.n from fun j hj => by
          by_cases hji : j < i
          · have := hlo.out j hji; omega
          · obtain rfl : j = i := by omega
            rw [← hb]; omega)
        have e1 : b.p - f < n := by omega
        clear hb q3 hfo' hch hfo ed hlo
        go_wp2_with fail
        go_quiet (fail)
        have hb1 := below_drewN wr nq
        have XB1 := Lib.hid (And.intro (hx.out.1.below hb1) (And.intro (hx.out.2.1.below hb1) (hx.out.2.2.drewN nq)))
        have HB1 := Lib.hid (hbl.out.trans (hb1.mono hbl.out.size))
        clear hb1
        go_wp2_with fail
        go_roundw
        case rel => exact ⟨i + 1, b.p + b.n, by omega, by omega, by omega, by go_num, rfl, Q3, F2, LO, XB1, HB1⟩
        case measure => simp [intOf]; omega
    · obtain rfl : i = N := by omega
      have ed : L.drop i = [] := List.drop_of_length_le (by rw [← HN.out]; omega)
      have hfo' := hfo.out
      rw [ed, gaps, firstGap_cons, firstGap_nil] at hfo'
      have v1 : IntKind.i64.wrap (e - f) = e - f := by rw [IntKind.wrap_i64]; omega
      by_cases hfit : n ≤ e - f
      · rw [if_pos hfit] at hfo'
        have e1 : decide (e - f < n) = false := by simp; omega
        obtain rfl : f = p := Option.some.inj hfo'
        have hput : putIn ⟨f, n, 64⟩ L = L.take i ++ (⟨f, n, 64⟩ : Blk) :: L.drop i := putIn_at _ L i hlo.out (fun j hj1 hj2 => by
          have hu := (hch.out.up (j - i) (by simp; omega)).1
          have e2 : (L.drop i).getD (j - i) blk0 = L.getD j blk0 := by simp [List.getD, List.getElem?_drop, show i + (j - i) = j by omega]
          rw [e2] at hu; exact hu) (by rw [← HN.out]; omega)
        have HPUT := Lib.hid hput
        have MP := Lib.hid (hM wr hx.out.2.2)
        have HBL := Lib.hid hbl.out
        have HX := Lib.hid hx.out
        clear hfo' hfo hch ed hM hput hx hlo
        go_wp2_with fail
        go_at_call 19
        refine MP.out.mono ?_
        rintro en w5 ⟨rfl, hm5, ho5⟩
        have A5 := Lib.hid (HX.out.1.only ho5 (by simp; exact ⟨n2, n3⟩) (fun g hg => by have := hv g hg; simp; exact this))
        have M5 := Lib.hid hm5
        have O5 := Lib.hid ((Only.of_below (F := [bw, bh]) HBL.out).trans ho5)
        clear hm5 ho5
        obtain ⟨ad2, cap2, hve, _, hF5⟩ := told_ref A5.out.row
        cases hve
        rcases hF5 with ⟨rfl, hL, rfl⟩ | ⟨g5, rfl, hnc, hcm, hcs⟩
        · have hi0 : i = 0 := by rw [HN.out, hL]; rfl
          subst hi0
          obtain ⟨v1, w6, v2, w8, ad', l', c', w9, r1, r2, r3, o9, b6, b8, b9⟩ := refApp3 (w5 := w5) (x1 := .slice none 0 0) (x3 := .slice none 0 0) (L := L) 0 (by rw [hL]; simp) ⟨f, n, 64⟩ (.inl ⟨rfl, by simp⟩) (.inl ⟨rfl, by rw [hL]; rfl⟩)
          clear hL
          have o5c3 := A5.out.c3
          rw [← HN.out] at o5c3
          have q1 := (b8.cell (p := ⟨a, 3, none⟩) A5.out.top.lt).trans o5c3
          have q2 : w9.frozen? ⟨a, 3, none⟩ = false := (b9.frozen (p := ⟨a, 3, none⟩) A5.out.top.lt).trans A5.out.f3
          have q3 := (b9.cell (p := ⟨a, 3, none⟩) A5.out.top.lt).trans o5c3
          have R1 := Lib.hid r1
          have R2 := Lib.hid r2
          have R3 := Lib.hid r3
          have FIN := Lib.hid (refDone_of (w := w) (.tuple #[.int .i64 f, .pointer none]) A5.out M5.out hBw O5.out (by rw [HPUT.out]; exact o9 : w9.ownsRow w5.heap.size 97 3 _ (putIn ⟨f, n, 64⟩ L).length (flat (putIn ⟨f, n, 64⟩ L))) b9 n1 n2 n3)
          clear r1 r2 r3 o9 b6 b8 b9
          go_wp2_with (first
            | (at_builtin; refine Lib.wpList_append_run _ rfl _ _ 82 82 rfl _ _ rfl rfl _ _ R1.out ?_)
            | (at_builtin; refine Lib.wpList_append_run _ rfl _ _ 82 82 rfl _ _ rfl rfl _ _ R2.out ?_)
            | (at_builtin; refine Lib.wpList_append_run _ rfl _ _ 82 82 rfl _ _ rfl rfl _ _ R3.out ?_))
          go_ret2
          exact FIN.out
        · rw [← HN.out] at hnc
          have x1 := fun c => (src_take (cap := cap) HN.out (.inr ⟨g5, rfl, by rw [← HN.out]; omega, hcm, hcs⟩) i (by omega) c).resolve_right (fun hh => by cases hh.1)
          by_cases hcap : cap = i
          · subst hcap
            have x3 := src_end (w := w5) (g := g5) cap 0 HN.out
            obtain ⟨v1, w6, v2, w8, ad', l', c', w9, r1, r2, r3, o9, b6, b8, b9⟩ := refApp3 cap (by rw [← HN.out]; omega) ⟨f, n, 64⟩ (x1 cap) x3
            clear hcs x1 x3
            have o5c3 := A5.out.c3
            rw [← HN.out] at o5c3
            have q1 := (b8.cell (p := ⟨a, 3, none⟩) A5.out.top.lt).trans o5c3
            have q2 : w9.frozen? ⟨a, 3, none⟩ = false := (b9.frozen (p := ⟨a, 3, none⟩) A5.out.top.lt).trans A5.out.f3
            have q3 := (b9.cell (p := ⟨a, 3, none⟩) A5.out.top.lt).trans o5c3
            have R1 := Lib.hid r1
            have R2 := Lib.hid r2
            have R3 := Lib.hid r3
            have FIN := Lib.hid (refDone_of (w := w) (.tuple #[.int .i64 f, .pointer none]) A5.out M5.out hBw O5.out (by rw [HPUT.out]; exact o9 : w9.ownsRow w5.heap.size 97 3 _ (putIn ⟨f, n, 64⟩ L).length (flat (putIn ⟨f, n, 64⟩ L))) b9 n1 n2 n3)
            clear r1 r2 r3 o9 b6 b8 b9
            go_wp2_with (first
              | (at_builtin; refine Lib.wpList_append_run _ rfl _ _ 82 82 rfl _ _ rfl rfl _ _ R1.out ?_)
              | (at_builtin; refine Lib.wpList_append_run _ rfl _ _ 82 82 rfl _ _ rfl rfl _ _ R2.out ?_)
              | (at_builtin; refine Lib.wpList_append_run _ rfl _ _ 82 82 rfl _ _ rfl rfl _ _ R3.out ?_))
            go_ret2
            exact FIN.out
          · have hcap0 : ¬ (cap = 0) := by omega
            have hic : i ≤ cap := by omega
            have x3 := src_drop hcs i (cap - i)
            rw [← HN.out] at x3
            rw [show i - i = 0 by omega] at x3
            obtain ⟨v1, w6, v2, w8, ad', l', c', w9, r1, r2, r3, o9, b6, b8, b9⟩ := refApp3 i (by rw [← HN.out]; omega) ⟨f, n, 64⟩ (x1 cap) x3
            clear hcs x1 x3
            have o5c3 := A5.out.c3
            rw [← HN.out] at o5c3
            have q1 := (b8.cell (p := ⟨a, 3, none⟩) A5.out.top.lt).trans o5c3
            have q2 : w9.frozen? ⟨a, 3, none⟩ = false := (b9.frozen (p := ⟨a, 3, none⟩) A5.out.top.lt).trans A5.out.f3
            have q3 := (b9.cell (p := ⟨a, 3, none⟩) A5.out.top.lt).trans o5c3
            have R1 := Lib.hid r1
            have R2 := Lib.hid r2
            have R3 := Lib.hid r3
            have FIN := Lib.hid (refDone_of (w := w) (.tuple #[.int .i64 f, .pointer none]) A5.out M5.out hBw O5.out (by rw [HPUT.out]; exact o9 : w9.ownsRow w5.heap.size 97 3 _ (putIn ⟨f, n, 64⟩ L).length (flat (putIn ⟨f, n, 64⟩ L))) b9 n1 n2 n3)
            clear r1 r2 r3 o9 b6 b8 b9
            go_wp2_with (first
              | (at_builtin; refine Lib.wpList_append_run _ rfl _ _ 82 82 rfl _ _ rfl rfl _ _ R1.out ?_)
              | (at_builtin; refine Lib.wpList_append_run _ rfl _ _ 82 82 rfl _ _ rfl rfl _ _ R2.out ?_)
              | (at_builtin; refine Lib.wpList_append_run _ rfl _ _ 82 82 rfl _ _ rfl rfl _ _ R3.out ?_))
            go_ret2
            exact FIN.out
      · rw [if_neg hfit] at hfo'
        cases hfo'

set_option maxHeartbeats 4000000 in
set_option maxRecDepth 100000 in
/-- The cells are taken. -/
theorem refGet_done32 {w : World} {a mb bw bh B : Nat} {frm e : Int} {v : Value} {L : List Blk} {m : Cells} (h : RefAl w a mb B frm e v L) (hm : RefMem w mb bw bh m) (hC : Chain e frm L) (h0 : 0 ≤ frm) (he : e < 2147483648) (n : Int) (h1 : 1 ≤ n) (h2 : n ≤ 4096) (p : Int) (m1 : Cells) (hg : firstGap n (gaps e frm L) = some p) (hBw : B ≤ w.heap.size) (n1 : a ≠ mb) (n2 : a ≠ bw) (n3 : a ≠ bh) (hv : ∀ g, v.ownBlock = some g → g ≠ bw ∧ g ≠ bh) (hM : ∀ w', RefMem w' mb bw bh m → Calls Tryd.prog 19 #[.pointer (some ⟨mb, 0, none⟩), .int .i64 p, .int .i64 n, .int .i64 32] w' fun en w'' => en = .returned (.pointer none) ∧ RefMem w'' mb bw bh m1 ∧ Only [bw, bh] w' w'') :
    Calls Tryd.prog 23 #[.pointer (some ⟨a, 0, none⟩), .int .i64 n, .int .i64 32] w (RefDone a mb bw bh B frm e (putIn ⟨p, n, 32⟩ L) m1 (.tuple #[.int .i64 p, .pointer none]) w) := by
  obtain ⟨ad, cap, rfl, hB, hForm⟩ := told_ref h.row
  have hFm := Lib.hid hForm
  have hOwn := Lib.hid h.row.lt
  have XB := Lib.hid (And.intro h (And.intro hB hm))
  have c1 := h.c1
  have hsm := hC.le
  have HC := Lib.hid hC
  have HG := Lib.hid hg
  obtain ⟨N, hN⟩ : ∃ N, N = L.length := ⟨_, rfl⟩
  rw [← hN] at hsm
  have HN := Lib.hid hN
  clear h hm hC hB hForm hN hg
  go_enter Tryd.func23, Tryd.ntmps23
  go_wp2_with fail
  go_loopw [8, 9] (fun vf vi wr => ∃ (i : Nat) (f : Int), i ≤ N ∧ frm ≤ f ∧ f ≤ e ∧ vi = .int .i64 i ∧ vf = .int .i64 f ∧ Hid (Chain e f (L.drop i)) ∧ Hid (firstGap n (gaps e f (L.drop i)) = some p) ∧ Hid (∀ j, j < i → (L.getD j blk0).p < f) ∧
      Hid (RefAl wr a mb B frm e (.slice ad L.length cap) L ∧ BlkIn wr ad L ∧ RefMem wr mb bw bh m) ∧ Hid (Below w.heap.size w wr)) (fun _ vi _ => N - (intOf vi).toNat)
  case atStart => exact ⟨0, frm, by omega, by omega, by have := HC.out.le; omega, rfl, rfl, Lib.hid (by simpa using HC.out), Lib.hid (by simpa using HG.out), Lib.hid (fun j hj => by omega), XB, Lib.hid (Below.refl _ _)⟩
  case round =>
    obtain ⟨i, f, hi, hf0, hfe, rfl, rfl, hch, hfo, hlo, hx, hbl⟩ := hrel
    have d3 := hx.out.1.c3
    have d2 := hx.out.1.c2
    have d0 := hx.out.1.c0
    rw [← HN.out] at d3
    by_cases hlt : i < N
    · obtain ⟨g, rfl, hgw, b0, b1, b2⟩ := hx.out.2.1 i (by rw [← HN.out]; exact hlt)
      have ed := drop_getD L i (by rw [← HN.out]; exact hlt)
      have hch' := hch.out
      have hfo' := hfo.out
      rw [ed] at hch' hfo'
      obtain ⟨b, hb⟩ : ∃ b, b = L.getD i blk0 := ⟨_, rfl⟩
      rw [← hb] at b0 b1 b2 hch' hfo'
      obtain ⟨q1, q2, q3⟩ := hch'
      rw [gaps, firstGap_cons] at hfo'
      have q4 := q3.le
      have Q3 := Lib.hid q3
      have v1 : IntKind.i64.wrap (b.p - f) = b.p - f := by rw [IntKind.wrap_i64]; omega
      have v2 : IntKind.i64.wrap (b.p + b.n) = b.p + b.n := by rw [IntKind.wrap_i64]; omega
      by_cases hfit : n ≤ b.p - f
      · rw [if_pos hfit] at hfo'
        have e1 : decide (b.p - f < n) = false := by simp; omega
        have HBQ := Lib.hid (And.intro hb q3)
        clear hb q3
        obtain rfl : f = p := Option.some.inj hfo'
        have hput : putIn ⟨f, n, 32⟩ L = L.take i ++ (⟨f, n, 32⟩ : Blk) :: L.drop i := putIn_at _ L i hlo.out (fun j hj1 hj2 => by
          have hu := (hch.out.up (j - i) (by simp; omega)).1
          have e2 : (L.drop i).getD (j - i) blk0 = L.getD j blk0 := by simp [List.getD, List.getElem?_drop, show i + (j - i) = j by omega]
          rw [e2] at hu; exact hu) (by rw [← HN.out]; omega)
        have HPUT := Lib.hid hput
        have MP := Lib.hid (hM wr hx.out.2.2)
        have HBL := Lib.hid hbl.out
        have HX := Lib.hid hx.out
        clear hfo' hfo hch ed hM hput hx hlo
        go_wp2_with fail
        go_at_call 19
        refine MP.out.mono ?_
        rintro en w5 ⟨rfl, hm5, ho5⟩
        have A5 := Lib.hid (HX.out.1.only ho5 (by simp; exact ⟨n2, n3⟩) (fun g hg => by have := hv g hg; simp; exact this))
        have M5 := Lib.hid hm5
        have O5 := Lib.hid ((Only.of_below (F := [bw, bh]) HBL.out).trans ho5)
        clear hm5 ho5
        obtain ⟨ad2, cap2, hve, _, hF5⟩ := told_ref A5.out.row
        cases hve
        rcases hF5 with ⟨hx0, _⟩ | ⟨g5, hx5, hnc, hcm, hcs⟩
        · cases hx0
        cases hx5
        rw [← HN.out] at hnc
        have hcap : ¬ (cap = i) := by omega
        have hcap0 : ¬ (cap = 0) := by omega
        have hic : i ≤ cap := by omega
        have hiN : i ≤ N := by omega
        have x3 := src_drop hcs i (cap - i)
        rw [← HN.out] at x3
        have x1 := (src_take (cap := cap) HN.out (.inr ⟨g, rfl, by rw [← HN.out]; omega, hcm, hcs⟩) i (by omega) cap).resolve_right (fun hh => by cases hh.1)
        obtain ⟨v1, w6, v2, w8, ad', l', c', w9, r1, r2, r3, o9, b6, b8, b9⟩ := refApp3 i (by rw [← HN.out]; omega) ⟨f, n, 32⟩ x1 x3
        clear hcs x1 x3
        have o5c3 := A5.out.c3
        rw [← HN.out] at o5c3
        have q1 := (b8.cell (p := ⟨a, 3, none⟩) A5.out.top.lt).trans o5c3
        have q2 : w9.frozen? ⟨a, 3, none⟩ = false := (b9.frozen (p := ⟨a, 3, none⟩) A5.out.top.lt).trans A5.out.f3
        have q3 := (b9.cell (p := ⟨a, 3, none⟩) A5.out.top.lt).trans o5c3
        have R1 := Lib.hid r1
        have R2 := Lib.hid r2
        have R3 := Lib.hid r3
        have FIN := Lib.hid (refDone_of (w := w) (.tuple #[.int .i64 f, .pointer none]) A5.out M5.out hBw O5.out (by rw [HPUT.out]; exact o9 : w9.ownsRow w5.heap.size 97 3 _ (putIn ⟨f, n, 32⟩ L).length (flat (putIn ⟨f, n, 32⟩ L))) b9 n1 n2 n3)
        clear r1 r2 r3 o9 b6 b8 b9
        go_wp2_with (first
          | (at_builtin; refine Lib.wpList_append_run _ rfl _ _ 82 82 rfl _ _ rfl rfl _ _ R1.out ?_)
          | (at_builtin; refine Lib.wpList_append_run _ rfl _ _ 82 82 rfl _ _ rfl rfl _ _ R2.out ?_)
          | (at_builtin; refine Lib.wpList_append_run _ rfl _ _ 82 82 rfl _ _ rfl rfl _ _ R3.out ?_))
        go_ret2
        exact FIN.out
      · rw [if_neg hfit] at hfo'
        have F2 := Lib.hid hfo'
        have LO := Lib.hid (show ∀ j, j < i + 1 → (L.getD j blk0).p < b.p + b.n from fun j hj => by
          by_cases hji : j < i
          · have := hlo.out j hji; omega
          · obtain rfl : j = i := by omega
            rw [← hb]; omega)
        have e1 : b.p - f < n := by omega
        clear hb q3 hfo' hch hfo ed hlo
        go_wp2_with fail
        go_quiet (fail)
        have hb1 := below_drewN wr nq
        have XB1 := Lib.hid (And.intro (hx.out.1.below hb1) (And.intro (hx.out.2.1.below hb1) (hx.out.2.2.drewN nq)))
        have HB1 := Lib.hid (hbl.out.trans (hb1.mono hbl.out.size))
        clear hb1
        go_wp2_with fail
        go_roundw
        case rel => exact ⟨i + 1, b.p + b.n, by omega, by omega, by omega, by go_num, rfl, Q3, F2, LO, XB1, HB1⟩
        case measure => simp [intOf]; omega
    · obtain rfl : i = N := by omega
      have ed : L.drop i = [] := List.drop_of_length_le (by rw [← HN.out]; omega)
      have hfo' := hfo.out
      rw [ed, gaps, firstGap_cons, firstGap_nil] at hfo'
      have v1 : IntKind.i64.wrap (e - f) = e - f := by rw [IntKind.wrap_i64]; omega
      by_cases hfit : n ≤ e - f
      · rw [if_pos hfit] at hfo'
        have e1 : decide (e - f < n) = false := by simp; omega
        obtain rfl : f = p := Option.some.inj hfo'
        have hput : putIn ⟨f, n, 32⟩ L = L.take i ++ (⟨f, n, 32⟩ : Blk) :: L.drop i := putIn_at _ L i hlo.out (fun j hj1 hj2 => by
          have hu := (hch.out.up (j - i) (by simp; omega)).1
          have e2 : (L.drop i).getD (j - i) blk0 = L.getD j blk0 := by simp [List.getD, List.getElem?_drop, show i + (j - i) = j by omega]
          rw [e2] at hu; exact hu) (by rw [← HN.out]; omega)
        have HPUT := Lib.hid hput
        have MP := Lib.hid (hM wr hx.out.2.2)
        have HBL := Lib.hid hbl.out
        have HX := Lib.hid hx.out
        clear hfo' hfo hch ed hM hput hx hlo
        go_wp2_with fail
        go_at_call 19
        refine MP.out.mono ?_
        rintro en w5 ⟨rfl, hm5, ho5⟩
        have A5 := Lib.hid (HX.out.1.only ho5 (by simp; exact ⟨n2, n3⟩) (fun g hg => by have := hv g hg; simp; exact this))
        have M5 := Lib.hid hm5
        have O5 := Lib.hid ((Only.of_below (F := [bw, bh]) HBL.out).trans ho5)
        clear hm5 ho5
        obtain ⟨ad2, cap2, hve, _, hF5⟩ := told_ref A5.out.row
        cases hve
        rcases hF5 with ⟨rfl, hL, rfl⟩ | ⟨g5, rfl, hnc, hcm, hcs⟩
        · have hi0 : i = 0 := by rw [HN.out, hL]; rfl
          subst hi0
          obtain ⟨v1, w6, v2, w8, ad', l', c', w9, r1, r2, r3, o9, b6, b8, b9⟩ := refApp3 (w5 := w5) (x1 := .slice none 0 0) (x3 := .slice none 0 0) (L := L) 0 (by rw [hL]; simp) ⟨f, n, 32⟩ (.inl ⟨rfl, by simp⟩) (.inl ⟨rfl, by rw [hL]; rfl⟩)
          clear hL
          have o5c3 := A5.out.c3
          rw [← HN.out] at o5c3
          have q1 := (b8.cell (p := ⟨a, 3, none⟩) A5.out.top.lt).trans o5c3
          have q2 : w9.frozen? ⟨a, 3, none⟩ = false := (b9.frozen (p := ⟨a, 3, none⟩) A5.out.top.lt).trans A5.out.f3
          have q3 := (b9.cell (p := ⟨a, 3, none⟩) A5.out.top.lt).trans o5c3
          have R1 := Lib.hid r1
          have R2 := Lib.hid r2
          have R3 := Lib.hid r3
          have FIN := Lib.hid (refDone_of (w := w) (.tuple #[.int .i64 f, .pointer none]) A5.out M5.out hBw O5.out (by rw [HPUT.out]; exact o9 : w9.ownsRow w5.heap.size 97 3 _ (putIn ⟨f, n, 32⟩ L).length (flat (putIn ⟨f, n, 32⟩ L))) b9 n1 n2 n3)
          clear r1 r2 r3 o9 b6 b8 b9
          go_wp2_with (first
            | (at_builtin; refine Lib.wpList_append_run _ rfl _ _ 82 82 rfl _ _ rfl rfl _ _ R1.out ?_)
            | (at_builtin; refine Lib.wpList_append_run _ rfl _ _ 82 82 rfl _ _ rfl rfl _ _ R2.out ?_)
            | (at_builtin; refine Lib.wpList_append_run _ rfl _ _ 82 82 rfl _ _ rfl rfl _ _ R3.out ?_))
          go_ret2
          exact FIN.out
        · rw [← HN.out] at hnc
          have x1 := fun c => (src_take (cap := cap) HN.out (.inr ⟨g5, rfl, by rw [← HN.out]; omega, hcm, hcs⟩) i (by omega) c).resolve_right (fun hh => by cases hh.1)
          by_cases hcap : cap = i
          · subst hcap
            have x3 := src_end (w := w5) (g := g5) cap 0 HN.out
            obtain ⟨v1, w6, v2, w8, ad', l', c', w9, r1, r2, r3, o9, b6, b8, b9⟩ := refApp3 cap (by rw [← HN.out]; omega) ⟨f, n, 32⟩ (x1 cap) x3
            clear hcs x1 x3
            have o5c3 := A5.out.c3
            rw [← HN.out] at o5c3
            have q1 := (b8.cell (p := ⟨a, 3, none⟩) A5.out.top.lt).trans o5c3
            have q2 : w9.frozen? ⟨a, 3, none⟩ = false := (b9.frozen (p := ⟨a, 3, none⟩) A5.out.top.lt).trans A5.out.f3
            have q3 := (b9.cell (p := ⟨a, 3, none⟩) A5.out.top.lt).trans o5c3
            have R1 := Lib.hid r1
            have R2 := Lib.hid r2
            have R3 := Lib.hid r3
            have FIN := Lib.hid (refDone_of (w := w) (.tuple #[.int .i64 f, .pointer none]) A5.out M5.out hBw O5.out (by rw [HPUT.out]; exact o9 : w9.ownsRow w5.heap.size 97 3 _ (putIn ⟨f, n, 32⟩ L).length (flat (putIn ⟨f, n, 32⟩ L))) b9 n1 n2 n3)
            clear r1 r2 r3 o9 b6 b8 b9
            go_wp2_with (first
              | (at_builtin; refine Lib.wpList_append_run _ rfl _ _ 82 82 rfl _ _ rfl rfl _ _ R1.out ?_)
              | (at_builtin; refine Lib.wpList_append_run _ rfl _ _ 82 82 rfl _ _ rfl rfl _ _ R2.out ?_)
              | (at_builtin; refine Lib.wpList_append_run _ rfl _ _ 82 82 rfl _ _ rfl rfl _ _ R3.out ?_))
            go_ret2
            exact FIN.out
          · have hcap0 : ¬ (cap = 0) := by omega
            have hic : i ≤ cap := by omega
            have x3 := src_drop hcs i (cap - i)
            rw [← HN.out] at x3
            rw [show i - i = 0 by omega] at x3
            obtain ⟨v1, w6, v2, w8, ad', l', c', w9, r1, r2, r3, o9, b6, b8, b9⟩ := refApp3 i (by rw [← HN.out]; omega) ⟨f, n, 32⟩ (x1 cap) x3
            clear hcs x1 x3
            have o5c3 := A5.out.c3
            rw [← HN.out] at o5c3
            have q1 := (b8.cell (p := ⟨a, 3, none⟩) A5.out.top.lt).trans o5c3
            have q2 : w9.frozen? ⟨a, 3, none⟩ = false := (b9.frozen (p := ⟨a, 3, none⟩) A5.out.top.lt).trans A5.out.f3
            have q3 := (b9.cell (p := ⟨a, 3, none⟩) A5.out.top.lt).trans o5c3
            have R1 := Lib.hid r1
            have R2 := Lib.hid r2
            have R3 := Lib.hid r3
            have FIN := Lib.hid (refDone_of (w := w) (.tuple #[.int .i64 f, .pointer none]) A5.out M5.out hBw O5.out (by rw [HPUT.out]; exact o9 : w9.ownsRow w5.heap.size 97 3 _ (putIn ⟨f, n, 32⟩ L).length (flat (putIn ⟨f, n, 32⟩ L))) b9 n1 n2 n3)
            clear r1 r2 r3 o9 b6 b8 b9
            go_wp2_with (first
              | (at_builtin; refine Lib.wpList_append_run _ rfl _ _ 82 82 rfl _ _ rfl rfl _ _ R1.out ?_)
              | (at_builtin; refine Lib.wpList_append_run _ rfl _ _ 82 82 rfl _ _ rfl rfl _ _ R2.out ?_)
              | (at_builtin; refine Lib.wpList_append_run _ rfl _ _ 82 82 rfl _ _ rfl rfl _ _ R3.out ?_))
            go_ret2
            exact FIN.out
      · rw [if_neg hfit] at hfo'
        cases hfo'
end Go.Proofs.YtlodelcenejfhaaDoor
