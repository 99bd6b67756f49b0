/- The program's blocks of cells (layer 3): contracts of the search for a place among the blocks, and of find. The condition: the blocks' places ascend, there are fewer than 2^31. -/
import Derived.Test.YtlodelcenejfhaaDoorAllocBlocks
import Derived.Lib.SlicesSearch
namespace Go.Proofs.YtlodelcenejfhaaDoor
open Go.RowKit Go.Shelf
set_option linter.unusedVariables false

set_option maxHeartbeats 400000 in
theorem isNaN_any (x : Int) (w : World) : Calls Tryd.prog 68 #[.int .i64 x] w fun e w' => e = .returned (.bool false) ∧ w = w' := by
  go_enter Tryd.func68, Tryd.ntmps68
  go_wp2
  go_ret
  exact ⟨rfl, rfl⟩
/-- Which comes first. -/
def cmpI (x y : Int) : Int := if x < y then -1 else if y < x then 1 else 0
set_option maxHeartbeats 400000 in
theorem compare_any (x y : Int) (w : World) : Calls Tryd.prog 58 #[.int .i64 x, .int .i64 y] w fun e w' => e = .returned (.int .i64 (cmpI x y)) ∧ w = w' := by
  by_cases h1 : x < y
  · rw [show cmpI x y = -1 from if_pos h1]
    go_enter Tryd.func58, Tryd.ntmps58
    go_wp2_with (go_at_call 68; refine (isNaN_any _ _).mono ?_; rintro e w' ⟨rfl, rfl⟩)
    go_ret
    exact ⟨rfl, rfl⟩
  · by_cases h2 : y < x
    · rw [show cmpI x y = 1 by unfold cmpI; rw [if_neg h1, if_pos h2]]
      go_enter Tryd.func58, Tryd.ntmps58
      go_wp2_with (go_at_call 68; refine (isNaN_any _ _).mono ?_; rintro e w' ⟨rfl, rfl⟩)
      go_ret
      exact ⟨rfl, rfl⟩
    · rw [show cmpI x y = 0 by unfold cmpI; rw [if_neg h1, if_neg h2]]
      have h3 : y ≤ x := by omega
      have h4 : x ≤ y := by omega
      go_enter Tryd.func58, Tryd.ntmps58
      go_wp2_with (go_at_call 68; refine (isNaN_any _ _).mono ?_; rintro e w' ⟨rfl, rfl⟩)
      go_ret
      exact ⟨rfl, rfl⟩
set_option maxHeartbeats 400000 in
theorem find1_any (p n k x : Int) (w : World) : Calls Tryd.prog 57 #[.agg #[.int .i64 p, .int .i64 n, .int .i64 k], .int .i64 x] w fun e w' => e = .returned (.int .i64 (cmpI p x)) ∧ w' = w.alloc (.cells #[.int .i64 p, .int .i64 n, .int .i64 k] 65) := by
  have CA := Lib.hid (compare_any p x)
  go_enter Tryd.func57, Tryd.ntmps57
  go_wp2_with (go_at_call 58; refine (CA.out _).mono ?_; rintro e w' ⟨rfl, rfl⟩)
  go_ret
  exact ⟨rfl, rfl⟩

/-- Where a place belongs. -/
structure PlaceOf (L : List Blk) (x : Int) (i : Nat) : Prop where
  le : i ≤ L.length
  lo : ∀ j, j < i → (L.getD j blk0).p < x
  hi : ∀ j, i ≤ j → j < L.length → x ≤ (L.getD j blk0).p
/-- What the search hands back. -/
def FindPost (L : List Blk) (x : Int) (w : World) (e : Ending) (w' : World) : Prop := ∃ i, PlaceOf L x i ∧ e = .returned (.tuple #[.int .i64 (i : Nat), .bool (decide (i < L.length ∧ (L.getD i blk0).p = x))]) ∧ Below w.heap.size w w'

set_option maxRecDepth 100000 in
set_option maxHeartbeats 1000000 in
theorem search_nil (x : Int) (w : World) : Calls Tryd.prog 56 #[.slice none 0 0, .int .i64 x, .func (.func 57) #[] #[]] w (FindPost [] x w) := by
  have FIN := Lib.hid (show FindPost [] x w (.returned (.tuple #[.int .i64 0, .bool false])) w from ⟨0, ⟨by simp, by omega, fun j _ h => by simp at h⟩, rfl, Below.refl _ _⟩)
  go_enter Tryd.func56, Tryd.ntmps56
  go_wp2
  go_loopw [9, 10] (fun vi vj wr => vi = .int .i64 0 ∧ vj = .int .i64 0 ∧ wr = w) (fun _ _ _ => 0)
  case atStart => exact ⟨rfl, rfl, rfl⟩
  case round =>
    obtain ⟨rfl, rfl, rfl⟩ := hrel
    go_wp2
    go_ret2
    exact FIN.out
theorem half (a b : Nat) (h : a + b < 4294967296) : True := trivial
set_option maxRecDepth 100000 in
set_option maxHeartbeats 2000000 in
theorem search_any (x : Int) (L : List Blk) (hs : L.length < 2147483648) (up : ∀ i j, i < j → j < L.length → (L.getD i blk0).p < (L.getD j blk0).p) (g cap : Nat) (w : World) (hg : g < w.heap.size) (hcs : ∀ j u, (flat L)[j]? = some u → w.cell? ⟨g, j, none⟩ = some u) :
    Calls Tryd.prog 56 #[.slice (some ⟨g, 0, none⟩) L.length cap, .int .i64 x, .func (.func 57) #[] #[]] w (FindPost L x w) := by
  have HC := Lib.hid hcs
  have UP := Lib.hid up
  have FL := Lib.hid (flat_at L)
  clear hcs up
  obtain ⟨n, hn⟩ : ∃ n, n = L.length := ⟨_, rfl⟩
  have HN := Lib.hid hn
  rw [← hn] at hs ⊢
  clear hn
  have F1 := Lib.hid find1_any
  go_enter Tryd.func56, Tryd.ntmps56
  go_wp2
  go_loopw [9, 10] (fun vi vj wr => ∃ i j : Nat, i ≤ j ∧ j ≤ n ∧ vi = .int .i64 i ∧ vj = .int .i64 j ∧ Hid (∀ t, t < i → (L.getD t blk0).p < x) ∧ Hid (∀ t, j ≤ t → t < L.length → x ≤ (L.getD t blk0).p) ∧ Below w.heap.size w wr) (fun vi vj _ => (intOf vj).toNat - (intOf vi).toNat)
  case atStart => exact ⟨0, n, by omega, by omega, by simp, rfl, Lib.hid (by omega), Lib.hid (fun t h1 h2 => by rw [HN.out] at h1; omega), Below.refl _ _⟩
  case round =>
    obtain ⟨i, j, hij, hj, rfl, rfl, hlo, hhi, hb⟩ := hrel
    by_cases hlt : i < j
    · have hh : (i + j) / 2 < L.length := by rw [← HN.out]; omega
      obtain ⟨x0, x1, x2⟩ := FL.out ((i + j) / 2) hh
      obtain ⟨b, hbk⟩ : ∃ b, b = L.getD ((i + j) / 2) blk0 := ⟨_, rfl⟩
      rw [← hbk] at x0 x1 x2
      have y0 := (hb.cell (p := ⟨g, (i + j) / 2 * 3, none⟩) hg).trans (HC.out _ _ x0)
      have y1 := (hb.cell (p := ⟨g, (i + j) / 2 * 3 + 1, none⟩) hg).trans (HC.out _ _ x1)
      have y2 := (hb.cell (p := ⟨g, (i + j) / 2 * 3 + 2, none⟩) hg).trans (HC.out _ _ x2)
      have HBK := Lib.hid hbk
      have HB := Lib.hid (hb.alloc hb.size (.cells #[.int .i64 b.p, .int .i64 b.n, .int .i64 b.k] 65))
      clear x0 x1 x2 hbk
      by_cases hx : b.p < x
      · have F2 := Lib.hid (F1.out b.p b.n b.k x wr)
        rw [show cmpI b.p x = -1 from if_pos hx] at F2
        have LO := Lib.hid (show ∀ t, t < (i + j) / 2 + 1 → (L.getD t blk0).p < x from fun t ht => by
          by_cases e : t = (i + j) / 2
          · rw [e, ← HBK.out]; exact hx
          · have := UP.out t ((i + j) / 2) (by omega) hh
            rw [← HBK.out] at this; omega)
        clear hx
        go_wp2_with (go_at_call 57; refine F2.out.mono ?_; rintro e w' ⟨rfl, rfl⟩)
        go_roundw
        case rel => exact ⟨(i + j) / 2 + 1, j, by omega, hj, by go_num, rfl, LO, hhi, HB.out⟩
        case measure => simp [intOf]; omega
      · have F2 := Lib.hid (F1.out b.p b.n b.k x wr)
        have HI := Lib.hid (show ∀ t, (i + j) / 2 ≤ t → t < L.length → x ≤ (L.getD t blk0).p from fun t ht hl => by
          by_cases e : t = (i + j) / 2
          · rw [e, ← HBK.out]; omega
          · have := UP.out ((i + j) / 2) t (by omega) hl
            rw [← HBK.out] at this; omega)
        obtain ⟨c, hc0, hc⟩ : ∃ c : Int, 0 ≤ c ∧ cmpI b.p x = c := by
          refine ⟨_, ?_, rfl⟩
          unfold cmpI
          split
          · omega
          · split <;> omega
        rw [hc] at F2
        clear hx hc
        go_wp2_with (go_at_call 57; refine F2.out.mono ?_; rintro e w' ⟨rfl, rfl⟩)
        go_roundw
        case rel => exact ⟨i, (i + j) / 2, by omega, by omega, rfl, by go_num, hlo, HI, HB.out⟩
        case measure => simp [intOf]; omega
    · obtain rfl : i = j := by omega
      have PL := Lib.hid (show PlaceOf L x i from ⟨by rw [← HN.out]; exact hj, hlo.out, hhi.out⟩)
      clear hlo hhi
      by_cases hi : i < n
      · have hh : i < L.length := by rw [← HN.out]; omega
        obtain ⟨x0, x1, x2⟩ := FL.out i hh
        obtain ⟨b, hbk⟩ : ∃ b, b = L.getD i blk0 := ⟨_, rfl⟩
        rw [← hbk] at x0 x1 x2
        have y0 := (hb.cell (p := ⟨g, i * 3, none⟩) hg).trans (HC.out _ _ x0)
        have y1 := (hb.cell (p := ⟨g, i * 3 + 1, none⟩) hg).trans (HC.out _ _ x1)
        have y2 := (hb.cell (p := ⟨g, i * 3 + 2, none⟩) hg).trans (HC.out _ _ x2)
        have HB := Lib.hid (hb.alloc hb.size (.cells #[.int .i64 b.p, .int .i64 b.n, .int .i64 b.k] 65))
        have F2 := Lib.hid (F1.out b.p b.n b.k x wr)
        have hge := PL.out.hi i (by omega) hh
        rw [← hbk] at hge
        by_cases he : b.p = x
        · have FIN := Lib.hid (show FindPost L x w (.returned (.tuple #[.int .i64 (i : Nat), .bool true])) (wr.alloc (.cells #[.int .i64 b.p, .int .i64 b.n, .int .i64 b.k] 65)) from
            ⟨i, PL.out, by rw [decide_eq_true ⟨hh, by rw [← hbk]; exact he⟩], HB.out⟩)
          rw [show cmpI b.p x = 0 by unfold cmpI; rw [if_neg (by omega), if_neg (by omega)]] at F2
          clear x0 x1 x2 hbk he hge
          go_wp2_with (go_at_call 57; refine F2.out.mono ?_; rintro e w' ⟨rfl, rfl⟩)
          go_ret2
          exact FIN.out
        · have FIN := Lib.hid (show FindPost L x w (.returned (.tuple #[.int .i64 (i : Nat), .bool false])) (wr.alloc (.cells #[.int .i64 b.p, .int .i64 b.n, .int .i64 b.k] 65)) from
            ⟨i, PL.out, by rw [decide_eq_false (fun h => he (by rw [hbk]; exact h.2))], HB.out⟩)
          rw [show cmpI b.p x = 1 by unfold cmpI; rw [if_neg (by omega), if_pos (by omega)]] at F2
          clear x0 x1 x2 hbk he hge
          go_wp2_with (go_at_call 57; refine F2.out.mono ?_; rintro e w' ⟨rfl, rfl⟩)
          go_ret2
          exact FIN.out
      · have FIN := Lib.hid (show FindPost L x w (.returned (.tuple #[.int .i64 (i : Nat), .bool false])) wr from
          ⟨i, PL.out, by rw [decide_eq_false (fun h => hi (by rw [HN.out]; exact h.1))], hb⟩)
        go_wp2
        go_ret2
        exact FIN.out
end Go.Proofs.YtlodelcenejfhaaDoor
