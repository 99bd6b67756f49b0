/- The document's blocks of cells (layer 3): how they lie in memory, contracts of Used and Widest, and blocks appended to a slice of the call's own. The conditions: the blocks lie one behind the other between the two places. -/
import Derived.Test.YtlodelcenejfhaaDoorAllocRead
import Derived.Test.YtlodelcenejfhaaDoorRefMemThere
namespace Go.Proofs.YtlodelcenejfhaaDoor
open Go.RowKit Go.Shelf
set_option linter.unusedVariables false

theorem used_front {e : Int} : ∀ {f : Int} {L : List Blk}, Chain e f L → ∀ i, 0 ≤ usedOf (L.take i) ∧ f + usedOf (L.take i) ≤ e
  | f, L, h, 0 => by have := h.le; simp [usedOf]; omega
  | f, [], h, i + 1 => by have := h.le; simp [usedOf] at this ⊢; omega
  | f, c :: L, ⟨h1, h2, h3⟩, i + 1 => by have := used_front h3 i; simp only [List.take_succ_cons, usedOf]; omega
theorem used_step (L : List Blk) (i : Nat) (h : i < L.length) : usedOf (L.take (i + 1)) = usedOf (L.take i) + (L.getD i blk0).n := by
  rw [take_succ_blk L i h, usedOf_append]; simp [usedOf]
theorem long_step (m : Int) (g : Int × Int) (l : List (Int × Int)) : List.foldl (fun m g => max m g.2) m (g :: l) = List.foldl (fun m g => max m g.2) (max m g.2) l := rfl

/-- A slice of the document's blocks, cell by cell. -/
theorem told_ref {W : World} {B : Nat} {v : Value} {L : List Blk} (h : W.ownsRow B 97 3 v L.length (flat L)) : ∃ ad cap, v = .slice ad L.length cap ∧ BlkIn W ad L ∧ ((ad = none ∧ L = [] ∧ cap = 0) ∨ ∃ g, ad = some ⟨g, 0, none⟩ ∧ L.length ≤ cap ∧ cap ≤ maxLen ∧ ∀ j u, (flat L)[j]? = some u → W.cell? ⟨g, j, none⟩ = some u) := by
  have h' := h
  rcases h.2 with ⟨rfl, e2⟩ | ⟨g, cap, cur, rfl, hb, hgg, hn, hm, hs, ht⟩
  · have e3 : L = [] := List.eq_nil_of_length_eq_zero e2
    exact ⟨none, 0, by rw [e3]; rfl, fun i hi => by rw [e3] at hi; simp at hi, .inl ⟨rfl, e3, rfl⟩⟩
  · have hc : ∀ j u, (flat L)[j]? = some u → W.cell? ⟨g, j, none⟩ = some u := fun j u hu => by have := h'.cells (g := g) rfl j u hu; rwa [add0] at this
    refine ⟨_, cap, rfl, fun i hi => ?_, .inr ⟨g, rfl, hn, hm, hc⟩⟩
    obtain ⟨x0, x1, x2⟩ := flat_at L i hi
    exact ⟨g, rfl, (Array.getElem?_eq_some_iff.1 hgg).1, hc _ _ x0, hc _ _ x1, hc _ _ x2⟩

/-- The document's allocator lies at block a: over the memory at block mb, between frm and e, its blocks' slice is v; that lies beyond B. -/
structure RefAl (w : World) (a mb B : Nat) (frm e : Int) (v : Value) (L : List Blk) : Prop where
  top : Row w a [.pointer (some ⟨mb, 0, none⟩), .int .i64 frm, .int .i64 e, v]
  row : w.ownsRow B 97 3 v L.length (flat L)
section
variable {w w' : World} {a mb B : Nat} {frm e : Int} {v : Value} {L : List Blk}
theorem RefAl.c0 (h : RefAl w a mb B frm e v L) : w.cell? ⟨a, 0, none⟩ = some (.pointer (some ⟨mb, 0, none⟩)) := h.top.cell 0 (by simp)
theorem RefAl.c1 (h : RefAl w a mb B frm e v L) : w.cell? ⟨a, 1, none⟩ = some (.int .i64 frm) := h.top.cell 1 (by simp)
theorem RefAl.c2 (h : RefAl w a mb B frm e v L) : w.cell? ⟨a, 2, none⟩ = some (.int .i64 e) := h.top.cell 2 (by simp)
theorem RefAl.c3 (h : RefAl w a mb B frm e v L) : w.cell? ⟨a, 3, none⟩ = some v := h.top.cell 3 (by simp)
theorem RefAl.f3 (h : RefAl w a mb B frm e v L) : w.frozen? ⟨a, 3, none⟩ = false := h.top.free 3 (by simp)
theorem RefAl.only {F : List Nat} (h : RefAl w a mb B frm e v L) (ho : Only F w w') (ha : a ∉ F) (hv : ∀ g, v.ownBlock = some g → g ∉ F) : RefAl w' a mb B frm e v L :=
  ⟨h.top.only ho ha, ownsRow_only h.row ho hv⟩
theorem RefAl.below (h : RefAl w a mb B frm e v L) (hb : Below w.heap.size w w') : RefAl w' a mb B frm e v L := h.only (F := []) (Only.of_below hb) (by simp) (fun g _ => by simp)
end

set_option maxHeartbeats 1000000 in
set_option maxRecDepth 100000 in
theorem refUsed {w : World} {a mb B : Nat} {frm e : Int} {v : Value} {L : List Blk} (h : RefAl w a mb B frm e v L) (hC : Chain e frm L) (h0 : 0 ≤ frm) (he : e < 2147483648) :
    Calls Tryd.prog 46 #[.pointer (some ⟨a, 0, none⟩)] w fun en w' => en = .returned (.int .i64 (usedOf L)) ∧ w = w' := by
  obtain ⟨ad, cap, rfl, hB, hForm⟩ := told_ref h.row
  clear hForm
  have c3 := h.c3
  have UF := Lib.hid (fun i => used_front hC i)
  have US := Lib.hid (used_step L)
  have hsm := hC.le
  have XB := Lib.hid hB
  obtain ⟨R, hR⟩ : ∃ R, R = usedOf L := ⟨_, rfl⟩
  rw [← hR]
  have HR := Lib.hid hR
  obtain ⟨N, hN⟩ : ∃ N, N = L.length := ⟨_, rfl⟩
  rw [← hN] at c3 hsm
  have HN := Lib.hid hN
  clear h hC hB hR hN
  go_enter Tryd.func46, Tryd.ntmps46
  go_wp2
  go_loop [3, 4] (fun vn vi => ∃ (i : Nat) (n : Int), i ≤ N ∧ vi = .int .i64 i ∧ vn = .int .i64 n ∧ Hid (usedOf (L.take i) = n)) (fun _ vi => N - (intOf vi).toNat)
  case atStart => exact ⟨0, 0, by omega, rfl, rfl, Lib.hid (by simp [usedOf])⟩
  case round =>
    obtain ⟨i, n, hi, rfl, rfl, hn⟩ := hrel
    by_cases hlt : i < N
    · obtain ⟨g, rfl, _, d0, d1, d2⟩ := XB.out i (by rw [← HN.out]; exact hlt)
      have u1 := UF.out i
      have u2 := UF.out (i + 1)
      have u3 := US.out i (by rw [← HN.out]; exact hlt)
      rw [u3, hn.out] at u2
      rw [hn.out] at u1 u3
      obtain ⟨b, hb⟩ : ∃ b, b = L.getD i blk0 := ⟨_, rfl⟩
      rw [← hb] at d0 d1 d2 u2 u3
      have U3 := Lib.hid u3
      have v1 : IntKind.i64.wrap (n + b.n) = n + b.n := by rw [IntKind.wrap_i64]; omega
      clear hb u3
      go_wp2
      go_round
      case rel => exact ⟨i + 1, n + b.n, by omega, by go_num, rfl, U3⟩
      case measure => simp [intOf]; omega
    · have hnn : n = R := by rw [← hn.out, HR.out, List.take_of_length_le (by rw [← HN.out]; omega)]
      subst hnn
      go_wp2
      go_ret
      exact ⟨rfl, rfl⟩

set_option maxHeartbeats 1000000 in
set_option maxRecDepth 100000 in
theorem refWidest {w : World} {a mb B : Nat} {frm e : Int} {v : Value} {L : List Blk} (h : RefAl w a mb B frm e v L) (hC : Chain e frm L) (h0 : 0 ≤ frm) (he : e < 2147483648) :
    Calls Tryd.prog 47 #[.pointer (some ⟨a, 0, none⟩)] w fun en w' => en = .returned (.int .i64 (longest (gaps e frm L))) ∧ Below w.heap.size w w' := by
  obtain ⟨ad, cap, rfl, hB, hForm⟩ := told_ref h.row
  clear hForm
  have c1 := h.c1
  have hsm := hC.le
  have XB := Lib.hid (And.intro h hB)
  have HC := Lib.hid hC
  obtain ⟨R, hR⟩ : ∃ R, R = longest (gaps e frm L) := ⟨_, rfl⟩
  rw [← hR]
  have HR := Lib.hid hR
  obtain ⟨N, hN⟩ : ∃ N, N = L.length := ⟨_, rfl⟩
  rw [← hN] at hsm
  have HN := Lib.hid hN
  clear h hC hB hR hN
  go_enter Tryd.func47, Tryd.ntmps47
  go_wp2_with fail
  go_quiet (fail)
  have hb0 := below_drewN w nq
  have XB0 := Lib.hid (And.intro (XB.out.1.below hb0) (XB.out.2.below hb0))
  have HB0 := Lib.hid hb0
  clear hb0
  go_wp2_with fail
  go_loopw [3, 4, 5] (fun vm vf vi wr => ∃ (i : Nat) (mo f : Int), i ≤ N ∧ 0 ≤ mo ∧ frm ≤ f ∧ f ≤ e ∧ vi = .int .i64 i ∧ vm = .int .i64 mo ∧ vf = .int .i64 f ∧ Hid (Chain e f (L.drop i)) ∧ Hid (List.foldl (fun m g => max m g.2) mo (gaps e f (L.drop i)) = R) ∧
      Hid (RefAl wr a mb B frm e (.slice ad L.length cap) L ∧ BlkIn wr ad L) ∧ Hid (Below w.heap.size w wr)) (fun _ _ vi _ => N - (intOf vi).toNat)
  case atStart => exact ⟨0, 0, frm, by omega, by omega, by omega, by have := HC.out.le; omega, rfl, rfl, rfl, Lib.hid (by simpa using HC.out), Lib.hid (by rw [HR.out]; rfl), XB0, HB0⟩
  case round =>
    obtain ⟨i, mo, f, hi, hm0, hf0, hfe, rfl, rfl, rfl, hch, hfo, hx, hbl⟩ := hrel
    have d3 := hx.out.1.c3
    rw [← HN.out] at d3
    by_cases hlt : i < N
    · obtain ⟨g, rfl, _, d0, d1, d2⟩ := hx.out.2 i (by rw [← HN.out]; exact hlt)
      have ed := drop_getD L i (by rw [← HN.out]; exact hlt)
      have hch' := hch.out
      have hfo' := hfo.out
      rw [ed] at hch' hfo'
      obtain ⟨b, hb⟩ : ∃ b, b = L.getD i blk0 := ⟨_, rfl⟩
      rw [← hb] at d0 d1 d2 hch' hfo'
      obtain ⟨q1, q2, q3⟩ := hch'
      rw [gaps, long_step] at hfo'
      have q4 := q3.le
      have Q3 := Lib.hid q3
      have F2 := Lib.hid hfo'
      have v1 : IntKind.i64.wrap (b.p - f) = b.p - f := by rw [IntKind.wrap_i64]; omega
      have v2 : IntKind.i64.wrap (b.p + b.n) = b.p + b.n := by rw [IntKind.wrap_i64]; omega
      clear hb q3 hfo' hch hfo ed
      rcases Int.lt_or_le mo (b.p - f) with hmx | hmx
      all_goals
        have f3 := F2.out
        first | rw [Int.max_eq_right (Int.le_of_lt hmx)] at f3 | rw [Int.max_eq_left hmx] at f3
        have F3 := Lib.hid f3
        clear f3
        go_wp2_with fail
        go_quiet (fail)
        have hb1 := below_drewN wr nq
        have XB1 := Lib.hid (And.intro (hx.out.1.below hb1) (hx.out.2.below hb1))
        have HB1 := Lib.hid (hbl.out.trans (hb1.mono hbl.out.size))
        clear hb1
        go_wp2_with fail
        go_roundw
        case rel => exact ⟨i + 1, _, b.p + b.n, by omega, by omega, by omega, by omega, by go_num, rfl, rfl, Q3, F3, XB1, HB1⟩
        case measure => simp [intOf]; omega
    · have ed : L.drop i = [] := List.drop_of_length_le (by rw [← HN.out]; omega)
      have d2 := hx.out.1.c2
      have hfo' := hfo.out
      rw [ed, gaps, long_step] at hfo'
      simp only [List.foldl_nil] at hfo'
      have v1 : IntKind.i64.wrap (e - f) = e - f := by rw [IntKind.wrap_i64]; omega
      have F2 := Lib.hid hfo'
      clear hfo' hfo hch ed
      rcases Int.lt_or_le mo (e - f) with hmx | hmx
      all_goals
        have f3 := F2.out
        first | rw [Int.max_eq_right (Int.le_of_lt hmx)] at f3 | rw [Int.max_eq_left hmx] at f3
        subst f3
        go_wp2_with fail
        go_ret
        exact ⟨rfl, hbl.out⟩
end Go.Proofs.YtlodelcenejfhaaDoor
