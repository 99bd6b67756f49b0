/- Contract of the statements' own examples (awake): it answers true; of what was there nothing has turned. The conditions: the library's variables errors.errorType and internal/strconv.uint64pow10 hold what the library's text lays. -/
import Derived.Test.YtklmnhklgojacaaDoorArith
import Derived.Test.YtklmnhklgojacaaDoorParse
import Derived.Test.YtklmnhklgojacaaDoorKeepNo
import Derived.Test.YtklmnhklgojacaaDoorKeepSame
import Derived.Test.YtklmnhklgojacaaDoorPrint
namespace Go.Proofs.YtklmnhklgojacaaDoor
open Go.RowKit

/-- An error of one place and the Fail of the same, laid one behind the other. -/
theorem same_at (y : ByteArray) (n k : Int) (h1 : 1 ≤ k) (h10 : k ≤ 10) (w : World) (hg : ErrType w) :
    Calls Tryd.prog 26 #[.iface 60 (.pointer (some ⟨w.heap.size, 0, none⟩)), .pointer (some ⟨w.heap.size + 1 + 1 + 1, 0, none⟩)]
      ((((w.alloc (.cells #[.string y, .int .i64 n, .iface 46 (.int .i64 k)] 64)).alloc (.cells #[.string y] 9)).alloc (.cells #[.int .i64 n] 3)).alloc (.cells #[.slice (some ⟨w.heap.size + 1, 0, none⟩) 1 1, .slice (some ⟨w.heap.size + 1 + 1, 0, none⟩) 1 1, .int .i64 k] 59))
      fun e w' => e = .returned (.bool true) ∧ Below w.heap.size w w' := by
  obtain ⟨W1, e1⟩ : ∃ W, W = w.alloc (.cells #[.string y, .int .i64 n, .iface 46 (.int .i64 k)] 64) := ⟨_, rfl⟩
  obtain ⟨W2, e2⟩ : ∃ W, W = W1.alloc (.cells #[.string y] 9) := ⟨_, rfl⟩
  obtain ⟨W3, e3⟩ : ∃ W, W = W2.alloc (.cells #[.int .i64 n] 3) := ⟨_, rfl⟩
  obtain ⟨W4, e4⟩ : ∃ W, W = W3.alloc (.cells #[.slice (some ⟨w.heap.size + 1, 0, none⟩) 1 1, .slice (some ⟨w.heap.size + 1 + 1, 0, none⟩) 1 1, .int .i64 k] 59) := ⟨_, rfl⟩
  rw [← e1, ← e2, ← e3, ← e4]
  have s1 : W1.heap.size = w.heap.size + 1 := by rw [e1]; simp
  have s2 : W2.heap.size = w.heap.size + 1 + 1 := by rw [e2]; simp [s1]
  have s3 : W3.heap.size = w.heap.size + 1 + 1 + 1 := by rw [e3]; simp [s2]
  have s4 : W4.heap.size = w.heap.size + 1 + 1 + 1 + 1 := by rw [e4]; simp [s3]
  have c1 : ∀ o, o < 3 → W4.cell? ⟨w.heap.size, o, none⟩ = W1.cell? ⟨w.heap.size, o, none⟩ := fun o _ => by
    rw [e4, World.cell?_alloc_lt _ _ ⟨w.heap.size, o, none⟩ (by show w.heap.size < _; omega), e3, World.cell?_alloc_lt _ _ ⟨w.heap.size, o, none⟩ (by show w.heap.size < _; omega), e2, World.cell?_alloc_lt _ _ ⟨w.heap.size, o, none⟩ (by show w.heap.size < _; omega)]
  have c2 : W4.cell? ⟨w.heap.size + 1, 0, none⟩ = some (.string y) := by
    rw [e4, World.cell?_alloc_lt _ _ ⟨w.heap.size + 1, 0, none⟩ (by show w.heap.size + 1 < _; omega), e3, World.cell?_alloc_lt _ _ ⟨w.heap.size + 1, 0, none⟩ (by show w.heap.size + 1 < _; omega), e2, World.cell?_alloc_at _ _ _ _ (by show w.heap.size + 1 = _; omega)]; rfl
  have c3 : W4.cell? ⟨w.heap.size + 1 + 1, 0, none⟩ = some (.int .i64 n) := by
    rw [e4, World.cell?_alloc_lt _ _ ⟨w.heap.size + 1 + 1, 0, none⟩ (by show w.heap.size + 1 + 1 < _; omega), e3, World.cell?_alloc_at _ _ _ _ (by show w.heap.size + 1 + 1 = _; omega)]; rfl
  have c4 : ∀ o, W4.cell? ⟨w.heap.size + 1 + 1 + 1, o, none⟩ = #[Value.slice (some ⟨w.heap.size + 1, 0, none⟩) 1 1, .slice (some ⟨w.heap.size + 1 + 1, 0, none⟩) 1 1, .int .i64 k][o]? := fun o => by
    rw [e4, World.cell?_alloc_at _ _ _ _ (by show w.heap.size + 1 + 1 + 1 = _; omega)]
  have c5 : ∀ o, W1.cell? ⟨w.heap.size, o, none⟩ = #[Value.string y, .int .i64 n, .iface 46 (.int .i64 k)][o]? := fun o => by
    rw [e1, World.cell?_alloc_at _ _ _ _ rfl]
  have hb : Below w.heap.size w W4 := by
    rw [e4, e3, e2, e1]
    exact ((((Below.refl _ _).alloc (Nat.le_refl _) _).alloc (by simp) _).alloc (by simp; omega) _).alloc (by simp; omega) _
  have hE : ErrAt W4 (.iface 60 (.pointer (some ⟨w.heap.size, 0, none⟩))) [(y, n)] k :=
    .place _ y n (.iface 46 (.int .i64 k)) [] k (by rw [c1 0 (by omega), c5]; rfl) (by rw [c1 1 (by omega), c5]; rfl) (by rw [c1 2 (by omega), c5]; rfl) (.kind k)
  have hF : FailAt W4 (.pointer (some ⟨w.heap.size + 1 + 1 + 1, 0, none⟩)) [(y, n)] k := by
    refine ⟨w.heap.size + 1 + 1 + 1, w.heap.size + 1, w.heap.size + 1 + 1, 1, 1, rfl, by rw [c4]; rfl, by rw [c4]; rfl, by rw [c4]; rfl, ?_, ?_⟩
    · intro j hj
      obtain rfl : j = 0 := by simpa using hj
      exact c2
    · intro j hj
      obtain rfl : j = 0 := by simpa using hj
      exact c3
  refine (same_any _ _ _ k hE hF (by simp) h1 h10 (errType_below hb hg (cell_lt hg))).mono ?_
  rintro e w' ⟨rfl, h⟩
  exact ⟨rfl, hb.trans (h.mono (by omega))⟩

theorem read_1f : readAll [48, 120, 49, 102] = .ok 31 := by kernel_rfl
theorem read_12a : readAll [49, 50, 97] = .bad 2 := by kernel_rfl
theorem dec_70 : Lib.decDigits 70 = [55, 48] := by
  rw [Lib.decDigits_two (by omega) (by omega)]; decide
theorem pow10_below {w w' : World} (hb : Below w.heap.size w w') (h : Pow10 w) : Pow10 w' := by
  have hn : Tryd.prog.globalNamed "internal/strconv.uint64pow10" = some 1 := by kernel_rfl
  have hlt : 1 < w.heap.size := by
    rcases Nat.lt_or_ge 1 w.heap.size with g | g
    · exact g
    · unfold Pow10 Lib.TabIs World.var? at h
      simp [hn, Array.getElem?_eq_none g] at h
  exact var?_below hb hn hlt h

set_option maxHeartbeats 1000000 in
theorem awake_any (w : World) (hg : ErrType w) (ht : Pow10 w) :
    Calls Tryd.prog 19 #[] w fun e w' => e = .returned (.bool true) ∧ Below w.heap.size w w' := by
  have p1 := parse_any ⟨#[48, 120, 49, 102]⟩ w
  rw [show (⟨#[48, 120, 49, 102]⟩ : ByteArray).data.toList = [48, 120, 49, 102] from rfl, read_1f] at p1
  have p2 := parse_any ⟨#[49, 50, 97]⟩ w
  rw [show (⟨#[49, 50, 97]⟩ : ByteArray).data.toList = [49, 50, 97] from rfl, read_12a] at p2
  have sm := fun w => sum_any 32 4294967295 2 (by omega) (by omega) (by omega) (by omega) w
  rw [show summ 32 4294967295 2 = 1 by kernel_rfl] at sm
  have sa := same_at ⟨#[119, 111, 114, 100]⟩ 2 6 (by omega) (by omega) w hg
  have pr := fun w' h => print_any 70 (by omega) w' h
  rw [dec_70] at pr
  have P1 := Lib.hid p1
  have P2 := Lib.hid p2
  have SM := Lib.hid sm
  have SA := Lib.hid sa
  have PR := Lib.hid pr
  have HT := Lib.hid ht
  clear p1 p2 sm sa pr hg ht
  go_enter Tryd.func19, Tryd.ntmps19
  go_wp2_with fail
  go_at_call 24
  refine P1.out.mono ?_
  rintro e w' ⟨rfl, rfl⟩
  go_wp2_with fail
  go_at_call 24
  refine P2.out.mono ?_
  rintro e w' ⟨rfl, rfl⟩
  go_wp2_with fail
  go_at_call 14
  refine (SM.out _).mono ?_
  rintro e w' ⟨rfl, rfl⟩
  go_wp2_with fail
  go_at_call 28
  refine (no_any _ _ _ _).mono ?_
  rintro e w' ⟨rfl, rfl⟩
  go_wp2_with fail
  go_at_call 26
  refine SA.out.mono ?_
  rintro e w1 ⟨rfl, hb⟩
  have ht1 := Lib.hid (pow10_below hb HT.out)
  go_wp2_with fail
  go_at_call 22
  refine (PR.out _ ht1.out).mono ?_
  rintro e w2 ⟨rfl, hb2⟩
  go_wp2_with fail
  go_ret
  exact ⟨rfl, hb.trans (hb2.mono hb.size)⟩
end Go.Proofs.YtklmnhklgojacaaDoor
