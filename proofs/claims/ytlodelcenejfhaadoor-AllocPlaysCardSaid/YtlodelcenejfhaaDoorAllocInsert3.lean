/- The library's Insert at a slice of blocks (layer 3), one block laid in between where the slice is full: what the new slice holds; and at any place. The conditions: the slice lies in memory of the program's own, with fewer than 2^31 elements; the place is of the slice. -/
import Derived.Test.YtlodelcenejfhaaDoorAllocInsert2
namespace Go.Proofs.YtlodelcenejfhaaDoor
open Go.RowKit Go.Shelf
set_option linter.unusedVariables false

/-- append(s[:i], make(S, m)...) where there is no room. -/
theorem run_append_zeros (w : World) (ty : TypeId) (b : Addr) (sLen sCap m : Nat) (x : Int) (hxm : x = (m : Int)) (olds : List Value) (hlo : olds.length = sLen * 3) (holds : ∀ j v, olds[j]? = some v → w.cell? (b.add j) = some v)
    (h0 : 0 < m) (hg : sCap < sLen + m) (hs : sLen + m < 4294967296) :
    (Builtin.append_ #[58, 3] ty #[.slice (some b) sLen sCap, .int .i64 x]).run Tryd.prog w =
      .ok (.slice (some ⟨w.heap.size, 0, none⟩) (sLen + m) (grownCap w (sLen + m) sCap 65))
        (w.drew.alloc (.cells (olds.toArray ++ Builtin.zeroCells (Value.agg #[.int .i64 0, .int .i64 0, .int .i64 0]).cells m ++ Builtin.zeroCells (Value.agg #[.int .i64 0, .int .i64 0, .int .i64 0]).cells (grownCap w (sLen + m) sCap 65 - (sLen + m))) 65)) := by
  subst hxm
  obtain ⟨i, hi, hz, hsz, hb⟩ := info_parts info_blk
  have hn : ¬ (sLen + m ≤ sCap) := by omega
  have hw : IntKind.i64.wrap (m : Int) = m := by rw [IntKind.wrap_i64]; omega
  have h63' : ¬ (9223372036854775807 < ((sLen : Int) + (m : Int))) := by omega
  have hfit := growslice_fits (need := sLen + m) (old := sCap) (bytes := i.bytes) hg (by rw [hb]; omega)
  have h48' : ¬ (281474976710656 < Builtin.nextslicecap (sLen + m) sCap * i.bytes) := by omega
  have h48i : ¬ (281474976710656 < (m : Int) * (i.bytes : Int)) := by rw [hb]; omega
  have hneg : ¬ ((m : Int) < 0) := by omega
  have hns : ¬ (m * i.size = 0) := by rw [hsz]; omega
  have hfo := run_firstCells_some (P := Tryd.prog) w.drew i.size sLen b sLen sCap olds (by rw [hsz]; exact hlo) (by simpa using holds)
  simp [Builtin.append_, run_underlying Tryd.underlying58, run_underlying Tryd.underlying3, sizeOf, typeInfo, zeroValue, hi, hz, asInt, asIntOf, hw, hn, hneg, hns, h63', h48', h48i, Question.forced, hfo, newRow, grownCap]

/-- What Insert leaves, in a new block. -/
def InsPostN (n : Nat) (xs : List Value) (w : World) (e : Ending) (w' : World) : Prop := ∃ q cap, e = .returned (.slice (some ⟨q, 0, none⟩) (n + 1) cap) ∧ w.heap.size ≤ q ∧ n + 1 ≤ cap ∧ cap ≤ 9223372036854775807 ∧ (∃ C, RowIs w' q C ∧ C.length = cap * 3 ∧ C.take ((n + 1) * 3) = xs) ∧ Only [] w w'

set_option maxHeartbeats 4000000 in
set_option maxRecDepth 100000 in
theorem insert_full (g n i q : Nat) (C mv xs : List Value) (b : Blk) (w : World) (hg : RowIs w g C) (hq : RowIs w q b.cs) (hi : i < n) (hs : n < 2147483648) (hCl : C.length = n * 3) (hmv : mv = C.drop (i * 3)) (h1 : ∀ v ∈ mv, v.oneCell' = true)
    (hx : xs = C.take (i * 3) ++ b.cs ++ mv) :
    Calls Tryd.prog 45 #[.slice (some ⟨g, 0, none⟩) n n, .int .i64 i, .slice (some ⟨q, 0, none⟩) 1 1] w (InsPostN n xs w) := by
  have hml : mv.length = (n - i) * 3 := by rw [hmv]; simp; omega
  have hbl : b.cs.length = 3 := rfl
  have h1b : ∀ u ∈ b.cs, u.oneCell' = true := by intro u hu; simp [Blk.cs] at hu; rcases hu with rfl | rfl | rfl <;> rfl
  have hgl : g < w.heap.size := (Array.getElem?_eq_some_iff.1 hg).1
  have hql : q < w.heap.size := (Array.getElem?_eq_some_iff.1 hq).1
  have ho1 : (C.take (i * 3)).length = i * 3 := by simp; omega
  have hr0 := fun ty => run_append_zeros w ty ⟨g, 0, none⟩ i n (n + 1 - i) ((n : Int) + 1 - (i : Int)) (by omega) (C.take (i * 3)) ho1 (hg.src 0 _ (by simp [hCl] <;> omega)) (by omega) (by omega) (by omega)
  rw [show i + (n + 1 - i) = n + 1 by omega] at hr0
  have hk1 := grownCap_ge w (n + 1) n 65
  have hk2 := grownCap_le_maxLen w (n + 1) n 65 (by unfold maxLen; omega)
  unfold maxLen at hk2
  obtain ⟨k, hk⟩ : ∃ k, k = grownCap w (n + 1) n 65 := ⟨_, rfl⟩
  rw [← hk] at hr0 hk1 hk2
  obtain ⟨Z, hZ⟩ : ∃ Z : List Value, Z = C.take (i * 3) ++ (Builtin.zeroCells (Value.agg #[.int .i64 0, .int .i64 0, .int .i64 0]).cells (n + 1 - i)).toList ++ (Builtin.zeroCells (Value.agg #[.int .i64 0, .int .i64 0, .int .i64 0]).cells (k - (n + 1))).toList := ⟨_, rfl⟩
  have hZa : (C.take (i * 3)).toArray ++ Builtin.zeroCells (Value.agg #[.int .i64 0, .int .i64 0, .int .i64 0]).cells (n + 1 - i) ++ Builtin.zeroCells (Value.agg #[.int .i64 0, .int .i64 0, .int .i64 0]).cells (k - (n + 1)) = Z.toArray := by
    rw [hZ]; apply Array.ext'; simp
  rw [hZa] at hr0
  have hzl : Z.length = k * 3 := by
    rw [hZ]; simp only [List.length_append, ho1, Array.length_toList, size_zeroCells, show (Value.agg #[.int .i64 0, .int .i64 0, .int .i64 0]).cells.size = 3 from rfl]; omega
  have hzt : Z.take (i * 3) = C.take (i * 3) := by rw [hZ, List.append_assoc, List.take_append_of_le_length (by omega), List.take_take, Nat.min_self]
  obtain ⟨W1, hW1⟩ : ∃ W1, W1 = w.drew.alloc (.cells Z.toArray 65) := ⟨_, rfl⟩
  rw [← hW1] at hr0
  have hR1 : RowIs W1 w.heap.size Z := by rw [hW1]; exact heap_alloc_new w.drew _
  have hG1 : RowIs W1 g C := by unfold RowIs; rw [hW1, heap_alloc_old w.drew _ g hgl]; exact hg
  have hQ1 : RowIs W1 q b.cs := by unfold RowIs; rw [hW1, heap_alloc_old w.drew _ q hql]; exact hq
  have hcp1 : ∀ ty dc, (Builtin.copy_ #[58, 58] ty #[.slice (some ⟨w.heap.size, i * 3, none⟩) (n + 1 - i) dc, .slice (some ⟨q, 0, none⟩) 1 1]).run Tryd.prog W1 = .ok (goInt (1 : Nat)) (W1.setRow w.heap.size (splice Z (i * 3) b.cs).toArray) := fun ty dc =>
    run_copy3 W1 ty w.heap.size (i * 3) (n + 1 - i) dc ⟨q, 0, none⟩ 1 1 _ b.cs 1 hR1 (by show 1 = min 1 (n + 1 - i); omega) rfl (hQ1.src 0 b.cs (by simp)) (by rw [hzl, hbl]; omega) h1b
  obtain ⟨W2, hW2⟩ : ∃ W2, W2 = W1.setRow w.heap.size (splice Z (i * 3) b.cs).toArray := ⟨_, rfl⟩
  rw [← hW2] at hcp1
  have hR2 : RowIs W2 w.heap.size (splice Z (i * 3) b.cs) := by rw [hW2]; exact setRow_heap W1 _ _ _ 65 _ hR1
  have hG2 : RowIs W2 g C := by unfold RowIs; rw [hW2, setRow_other _ _ _ _ (by omega)]; exact hG1
  have hl2 : (splice Z (i * 3) b.cs).length = k * 3 := by rw [length_splice _ _ _ (by omega)]; exact hzl
  have hcp2 : ∀ ty dc sc, (Builtin.copy_ #[58, 58] ty #[.slice (some ⟨w.heap.size, (i + 1) * 3, none⟩) (n - i) dc, .slice (some ⟨g, i * 3, none⟩) (n - i) sc]).run Tryd.prog W2.drew = .ok (goInt ((n - i : Nat) : Int)) (W2.drew.setRow w.heap.size (splice (splice Z (i * 3) b.cs) ((i + 1) * 3) mv).toArray) := fun ty dc sc =>
    run_copy3 W2.drew ty w.heap.size ((i + 1) * 3) (n - i) dc ⟨g, i * 3, none⟩ (n - i) sc _ mv (n - i) hR2 (by show n - i = min (n - i) (n - i); omega) hml (RowIs.src (w := W2.drew) hG2 _ _ (by rw [hmv, List.take_of_length_le (Nat.le_refl _)])) (by rw [hl2]; omega) h1
  obtain ⟨W3, hW3⟩ : ∃ W3, W3 = W2.drew.setRow w.heap.size (splice (splice Z (i * 3) b.cs) ((i + 1) * 3) mv).toArray := ⟨_, rfl⟩
  rw [← hW3] at hcp2
  have FIN := Lib.hid (show InsPostN n xs w (.returned (.slice (some ⟨w.heap.size, 0, none⟩) (n + 1) k)) W3 from by
    refine ⟨w.heap.size, k, rfl, Nat.le_refl _, hk1, hk2, ⟨splice (splice Z (i * 3) b.cs) ((i + 1) * 3) mv, ?_, ?_, ?_⟩, ?_⟩
    · rw [hW3]; exact setRow_heap W2.drew _ _ _ 65 _ hR2
    · rw [length_splice _ _ _ (by rw [hl2]; omega)]; exact hl2
    · rw [show (n + 1) * 3 = (i + 1) * 3 + mv.length by omega, take_splice_all _ _ _ (by omega), show (i + 1) * 3 = i * 3 + b.cs.length by omega, take_splice_all _ _ _ (by omega), hzt, hx]
    · have o3 : Only [w.heap.size] W1 W3 := by rw [hW3]; exact ((by rw [hW2]; exact only_setRow _ _ _ : Only [w.heap.size] W1 W2).drew).trans (only_setRow _ _ _)
      have o1 : Only [] w W1 := by rw [hW1]; exact ((Only.refl [] w).drew).alloc _
      exact ⟨o3.os.trans o1.os, o3.tape.trans o1.tape, o3.output.trans o1.output, Nat.le_trans o1.size o3.size, fun j hj _ => (o3.block j (by have := o1.size; omega) (by simp; omega)).trans (o1.block j hj (by simp))⟩)
  have hw1 : IntKind.i64.wrap ((i : Int) + 1) = (i : Int) + 1 := by rw [IntKind.wrap_i64]; omega
  have htn : ((i : Int) + 1).toNat = i + 1 := by omega
  have hz2 : ¬ ((i : Int) = (n : Int)) := by omega
  have hb0 : ¬ (n = i) := by omega
  have hb1 : i ≤ n := by omega
  have hb2 : ¬ (k = i + 1) := by omega
  have hb3 : (0 : Int) ≤ (i : Int) + 1 := by omega
  have hb4 : (i : Int) ≤ (n : Int) + 1 := by omega
  have hb5 : ¬ (k = i) := by omega
  have hb6 : i ≤ n + 1 := by omega
  have HR0 := Lib.hid hr0
  have HC1 := Lib.hid hcp1
  have HC2 := Lib.hid hcp2
  clear hr0 hcp1 hcp2 hW1 hW2 hW3 hR1 hQ1 hG1 hR2 hG2 hl2 hzl hzt hZ hZa hx hmv h1 h1b hml hbl hCl hg hq ho1 hk
  go_enter Tryd.func45, Tryd.ntmps45
  go_wp2_with (first | (with_reducible refine wpList_copyR _ rfl (.tmp 43) (.tmp 44) 58 58 rfl _ _ rfl rfl (HC1.out _ (k - i)) ?_) | (at_builtin; refine Lib.wpList_append_run _ rfl _ _ 58 3 rfl _ _ rfl rfl _ _ (HR0.out _) ?_))
  go_region_law (refine step_copyR rfl (.tmp 50) (.tmp 53) 58 58 rfl _ _ (by simp [Act.eval, Act.put]) (by simp [Act.eval, Act.put]) (HC2.out _ (k - (i + 1)) (n - i)) ?_)
  go_wp2
  go_ret
  exact FIN.out

/-- Insert of one block at any place. -/
theorem insert_row {w : World} {B : Nat} {v : Value} {L : List Blk} (h : w.ownsRow B 65 3 v L.length (flat L)) (hs : L.length < 2147483648) (b : Blk) (q : Nat) (hq : RowIs w q b.cs) (hv : v.ownBlock ≠ some q) (hB : B ≤ w.heap.size) (i : Nat) (hi : i ≤ L.length) :
    Calls Tryd.prog 45 #[v, .int .i64 i, .slice (some ⟨q, 0, none⟩) 1 1] w (EditPost B v (L.take i ++ b :: L.drop i) w) := by
  by_cases he : i = L.length
  · subst he
    have := insert_end h hs b q hq hB
    rw [List.take_of_length_le (Nat.le_refl _), List.drop_of_length_le (Nat.le_refl _)]; exact this
  · have hi' : i < L.length := by omega
    rcases h.2 with ⟨rfl, e⟩ | ⟨g, cap, cur, rfl, hb, hgg, hn, hm, hsz, ht⟩
    · omega
    · unfold maxLen at hm
      have hR : RowIs w g cur.toList := by unfold RowIs; simpa using hgg
      have hl : cur.toList.length = cap * 3 := by simpa using hsz
      have x1 : cur.toList.take (i * 3) = flat (L.take i) := by
        rw [flat_take, ← ht, List.take_take, Nat.min_eq_left (by omega)]
      have x2 : (cur.toList.drop (i * 3)).take ((L.length - i) * 3) = flat (L.drop i) := by
        rw [flat_drop, ← ht, List.drop_take, show L.length * 3 - i * 3 = (L.length - i) * 3 by omega]
      have hlen : (L.take i ++ b :: L.drop i).length = L.length + 1 := by simp; omega
      have hfl : flat (L.take i ++ b :: L.drop i) = cur.toList.take (i * 3) ++ b.cs ++ flat (L.drop i) := by
        rw [flat_append, x1, List.append_assoc]; rfl
      have hone : ∀ u ∈ flat (L.drop i), u.oneCell' = true := flat_one _
      by_cases hc : cap = L.length
      · subst hc
        refine (insert_full g L.length i q cur.toList (flat (L.drop i)) _ b w hR hq hi' hs hl (by rw [← x2, List.take_of_length_le (by simp [hl]; omega)]) hone hfl).mono ?_
        rintro e w' ⟨q', k, rfl, h1, h2, h3, ⟨C, hC, hCl, hCt⟩, ho⟩
        refine ⟨_, rfl, ?_, fun j hj => .inr ?_, ho.mono (by simp)⟩
        · rw [hlen]
          exact ⟨by rw [flat_length, hlen], .inr ⟨q', k, C.toArray, rfl, by omega, hC, h2, by unfold maxLen; exact h3, by simpa using hCl, by simpa using hCt⟩⟩
        · simp only [Value.ownBlock, Option.some.injEq] at hj; omega
      · refine (insert_room g L.length cap i q cur.toList (flat (L.drop i)) _ b w hR hq (fun e => hv (by simp [Value.ownBlock, e])) hi' (by omega) hm hs hl x2.symm hone hfl).mono ?_
        rintro e w' ⟨rfl, ⟨C, hC, hCl, hCt⟩, ho⟩
        refine ⟨_, rfl, ?_, fun j hj => .inl (by simpa [Value.ownBlock] using hj), by simpa [Value.ownBlock] using ho⟩
        rw [hlen]
        exact ⟨by rw [flat_length, hlen], .inr ⟨g, cap, C.toArray, rfl, hb, hC, by omega, by unfold maxLen; exact hm, by simpa using hCl, by simpa using hCt⟩⟩
end Go.Proofs.YtlodelcenejfhaaDoor
