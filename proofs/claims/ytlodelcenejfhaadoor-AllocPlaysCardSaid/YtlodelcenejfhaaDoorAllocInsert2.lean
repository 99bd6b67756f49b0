/- The library's Insert at a slice of blocks (layer 3), one block laid in between: what the slice holds behind the call. The conditions: the slice lies in memory of the program's own, with fewer than 2^31 elements; the place is of the slice. -/
import Derived.Test.YtlodelcenejfhaaDoorAllocInsert
namespace Go.Proofs.YtlodelcenejfhaaDoor
open Go.RowKit Go.Shelf
set_option linter.unusedVariables false

theorem sizeOf_blk : ∀ w, (Go.sizeOf 65).run Tryd.prog w = .ok 3 w := by
  obtain ⟨i, hi, hz, hs, hb⟩ := info_parts info_blk
  intro w
  simp [Go.sizeOf, typeInfo, hi, hs]
theorem overlaps_no {w : World} {q g : Nat} {X C : List Value} (hq : RowIs w q X) (hg : RowIs w g C) (hne : q ≠ g) (h0 : 0 < C.length) (o lb cb : Nat) :
    (callFunc 59 #[.slice (some ⟨q, 0, none⟩) 1 1, .slice (some ⟨g, o, none⟩) lb cb]).run Tryd.prog w = .ok (.value (.bool false)) w := by
  have s1 : w.shape? q = some (65, X.toArray.size) := by unfold RowIs at hq; simp [World.shape?, hq]
  have s2 : w.shape? g = some (65, C.toArray.size) := by unfold RowIs at hg; simp [World.shape?, hg]
  rw [run_callFunc_extern Tryd.func59 (by kernel_rfl) (by kernel_rfl) (by kernel_rfl) (e := Extern.SlicesOverlaps.overlaps #[58, 58] #[4]) (by kernel_rfl),
    Lib.run_overlaps_apart w 58 4 65 Tryd.underlying58 3 sizeOf_blk ⟨q, 0, none⟩ ⟨g, o, none⟩ 1 1 lb cb hne _ _ _ _ s1 s2 (by simp; intro h; rw [h] at h0; simp at h0) (frozen_of_row w q 0 _ _ hq) (frozen_of_row w q _ _ _ hq)]
  rfl

/-- What Insert leaves, in the row's own block. -/
def InsPost (g n cap : Nat) (xs : List Value) (w : World) (e : Ending) (w' : World) : Prop := e = .returned (.slice (some ⟨g, 0, none⟩) (n + 1) cap) ∧ (∃ C, RowIs w' g C ∧ C.length = cap * 3 ∧ C.take ((n + 1) * 3) = xs) ∧ Only [g] w w'

set_option maxHeartbeats 4000000 in
set_option maxRecDepth 100000 in
theorem insert_room (g n cap i q : Nat) (C mv xs : List Value) (b : Blk) (w : World) (hg : RowIs w g C) (hq : RowIs w q b.cs) (hne : q ≠ g) (hi : i < n) (hnc : n < cap) (hc63 : cap ≤ 9223372036854775807) (hs : n < 2147483648) (hCl : C.length = cap * 3) (hmv : mv = (C.drop (i * 3)).take ((n - i) * 3)) (h1 : ∀ v ∈ mv, v.oneCell' = true)
    (hx : xs = C.take (i * 3) ++ b.cs ++ mv) :
    Calls Tryd.prog 45 #[.slice (some ⟨g, 0, none⟩) n cap, .int .i64 i, .slice (some ⟨q, 0, none⟩) 1 1] w (InsPost g n cap xs w) := by
  have hml : mv.length = (n - i) * 3 := by rw [hmv]; simp; omega
  have hbl : b.cs.length = 3 := rfl
  have h1b : ∀ u ∈ b.cs, u.oneCell' = true := by intro u hu; simp [Blk.cs] at hu; rcases hu with rfl | rfl | rfl <;> rfl
  have hov := fun lb cb => overlaps_no hq hg hne (by omega) ((i + 1) * 3) lb cb
  have hcp1 : ∀ ty dc sc, (Builtin.copy_ #[58, 58] ty #[.slice (some ⟨g, (i + 1) * 3, none⟩) (n - i) dc, .slice (some ⟨g, i * 3, none⟩) (n + 1 - i) sc]).run Tryd.prog w.drew = .ok (goInt ((n - i : Nat) : Int)) (w.drew.setRow g (splice C ((i + 1) * 3) mv).toArray) := fun ty dc sc =>
    run_copy3 w.drew ty g ((i + 1) * 3) (n - i) dc ⟨g, i * 3, none⟩ (n + 1 - i) sc C mv (n - i) hg (by show n - i = min (n + 1 - i) (n - i); omega) hml (RowIs.src (w := w.drew) hg _ _ (by rw [hml, hmv])) (by omega) h1
  obtain ⟨W1, hW1⟩ : ∃ W1, W1 = w.drew.setRow g (splice C ((i + 1) * 3) mv).toArray := ⟨_, rfl⟩
  rw [← hW1] at hcp1
  have hR1 : RowIs W1 g (splice C ((i + 1) * 3) mv) := by rw [hW1]; exact setRow_heap w.drew g C.toArray _ 65 _ hg
  have hQ1 : RowIs W1 q b.cs := by unfold RowIs; rw [hW1, setRow_other _ _ _ _ hne]; exact hq
  have hl1 : (splice C ((i + 1) * 3) mv).length = cap * 3 := by rw [length_splice _ _ _ (by omega)]; exact hCl
  have hcp2 : ∀ ty dl dc, 1 ≤ dl → (Builtin.copy_ #[58, 58] ty #[.slice (some ⟨g, i * 3, none⟩) dl dc, .slice (some ⟨q, 0, none⟩) 1 1]).run Tryd.prog W1 = .ok (goInt (1 : Nat)) (W1.setRow g (splice (splice C ((i + 1) * 3) mv) (i * 3) b.cs).toArray) := fun ty dl dc hd =>
    run_copy3 W1 ty g (i * 3) dl dc ⟨q, 0, none⟩ 1 1 _ b.cs 1 hR1 (by show 1 = min 1 dl; omega) rfl (hQ1.src 0 b.cs (by simp)) (by rw [hl1, hbl]; omega) h1b
  obtain ⟨W2, hW2⟩ : ∃ W2, W2 = W1.setRow g (splice (splice C ((i + 1) * 3) mv) (i * 3) b.cs).toArray := ⟨_, rfl⟩
  rw [← hW2] at hcp2
  have FIN := Lib.hid (show InsPost g n cap xs w (.returned (.slice (some ⟨g, 0, none⟩) (n + 1) cap)) W2 from by
    refine ⟨rfl, ⟨splice (splice C ((i + 1) * 3) mv) (i * 3) b.cs, ?_, ?_, ?_⟩, ?_⟩
    · rw [hW2]; exact setRow_heap W1 g _ _ 65 _ hR1
    · rw [length_splice _ _ _ (by rw [hl1, hbl]; omega)]; exact hl1
    · rw [hx]
      have e1 : (splice C ((i + 1) * 3) mv).take ((n + 1) * 3) = C.take ((i + 1) * 3) ++ mv := by
        rw [show (n + 1) * 3 = (i + 1) * 3 + mv.length by omega, take_splice_all _ _ _ (by omega)]
      have e2 : (splice C ((i + 1) * 3) mv).take (i * 3) = C.take (i * 3) := by
        have := congrArg (List.take (i * 3)) (take_splice C mv ((i + 1) * 3) (by omega))
        rw [List.take_take, List.take_take, Nat.min_eq_left (by omega)] at this
        exact this
      unfold splice at e1 e2 ⊢
      rw [e2, ← List.append_assoc, List.take_append, List.take_of_length_le (by simp; omega)]
      congr 1
      rw [List.take_drop, show i * 3 + b.cs.length + ((n + 1) * 3 - (List.take (i * 3) C ++ b.cs).length) = (n + 1) * 3 by simp; omega, e1, show i * 3 + b.cs.length = (i + 1) * 3 by omega, List.drop_append_of_le_length (by simp; omega), List.drop_of_length_le (by simp; omega), List.nil_append]
    · rw [hW2]; exact ((Only.refl [g] w).drew.trans (by rw [hW1]; exact only_setRow _ _ _)).trans (only_setRow _ _ _))
  have hw1 : IntKind.i64.wrap ((i : Int) + 1) = (i : Int) + 1 := by rw [IntKind.wrap_i64]; omega
  have htn : ((i : Int) + 1).toNat = i + 1 := by omega
  have hz2 : ¬ ((i : Int) = (n : Int)) := by omega
  have hb0 : ¬ (cap = i) := by omega
  have hb1 : i ≤ n := by omega
  have hb2 : ¬ (cap = i + 1) := by omega
  have hb3 : (0 : Int) ≤ (i : Int) + 1 := by omega
  have hb4 : (i : Int) ≤ (n : Int) + 1 := by omega
  have HC1 := Lib.hid hcp1
  have HC2 := Lib.hid hcp2
  clear hcp1 hcp2 hW1 hW2 hR1 hQ1 hl1 hx hmv h1 h1b hml hbl hCl hg hq
  go_enter Tryd.func45, Tryd.ntmps45
  go_wp2_with (simp only [hov])
  go_region_law (refine step_copyR rfl (.tmp 73) (.tmp 76) 58 58 rfl _ _ (by simp [Act.eval, Act.put]) (by simp [Act.eval, Act.put]) (HC1.out _ (cap - (i + 1)) (cap - i)) ?_)
  go_wp2_with (with_reducible refine wpList_copyR _ rfl (.tmp 80) (.tmp 81) 58 58 rfl _ _ rfl rfl (HC2.out _ (n + 1 - i) (cap - i) (by omega)) ?_)
  go_ret
  exact FIN.out
end Go.Proofs.YtlodelcenejfhaaDoor
