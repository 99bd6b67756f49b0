/- The library's Delete at a slice of blocks (layer 3), one block taken out: what the slice holds behind the call. The conditions: the slice lies in memory of the program's own, with fewer than 2^31 elements; the place is of the slice. -/
import Derived.Test.YtlodelcenejfhaaDoorAllocEdit
import Derived.Test.YtlodelcenejfhaaDoorAllocBlocks
namespace Go.Proofs.YtlodelcenejfhaaDoor
open Go.RowKit Go.Shelf
set_option linter.unusedVariables false

/-- What Delete leaves. -/
def DelPost (g n cap : Nat) (xs : List Value) (w : World) (e : Ending) (w' : World) : Prop := e = .returned (.slice (some ⟨g, 0, none⟩) (n - 1) cap) ∧ (∃ C, RowIs w' g C ∧ C.length = cap * 3 ∧ C.take ((n - 1) * 3) = xs) ∧ Only [g] w w'

set_option maxHeartbeats 4000000 in
set_option maxRecDepth 100000 in
theorem delete_mid (g n cap i : Nat) (C xs : List Value) (w : World) (hg : RowIs w g C) (hi : i < n) (hnc : n ≤ cap) (hc63 : cap ≤ 9223372036854775807) (hCl : C.length = cap * 3) (h1 : ∀ v ∈ C.take (n * 3), v.oneCell' = true)
    (hx : xs = C.take (i * 3) ++ (C.drop ((i + 1) * 3)).take ((n - 1 - i) * 3)) (hne : ¬ cap = i + 1) :
    Calls Tryd.prog 39 #[.slice (some ⟨g, 0, none⟩) n cap, .int .i64 i, .int .i64 ((i : Int) + 1)] w (DelPost g n cap xs w) := by
  obtain ⟨i0, hi0, hz0, hz1, hz2⟩ := info_parts info_blk
  obtain ⟨news, hnews⟩ : ∃ news, news = (C.drop ((i + 1) * 3)).take ((n - 1 - i) * 3) := ⟨_, rfl⟩
  have hnl : news.length = (n - (i + 1)) * 3 := by rw [hnews]; simp; omega
  have hn1 : ∀ u ∈ news, u.oneCell' = true := fun u hu => h1 u (by
    rw [hnews] at hu
    have e : C.take (n * 3) = C.take ((i + 1) * 3) ++ (C.drop ((i + 1) * 3)).take ((n - 1 - i) * 3) := by
      rw [show n * 3 = (i + 1) * 3 + (n - 1 - i) * 3 by omega, List.take_add]
    rw [e]; exact List.mem_append_right _ hu)
  have hrun : ∀ ty, (Builtin.append_ #[58, 58] ty #[.slice (some ⟨g, 0, none⟩) i cap, .slice (some ⟨g, (i + 1) * 3, none⟩) (n - (i + 1)) (cap - (i + 1))]).run Tryd.prog w.drew =
      .ok (.slice (some ⟨g, 0, none⟩) (i + (n - (i + 1))) cap) (w.drew.setRow g (splice C (i * 3) news).toArray) := fun ty => by
    have := run_append_room (P := Tryd.prog) w.drew 58 ty 65 i0 Tryd.underlying58 hi0 g i cap C.toArray hg ⟨g, (i + 1) * 3, none⟩ (n - (i + 1)) (cap - (i + 1)) news (by rw [hz1]; exact hnl)
      (RowIs.src (w := w.drew) hg _ _ (by rw [hnl, hnews, show n - (i + 1) = n - 1 - i by omega])) hn1 (by omega) (by rw [hz1, hnl]; simp; omega)
    rw [this, hz1]
    simp [splice]
  obtain ⟨W1, hW1⟩ : ∃ W1, W1 = w.drew.setRow g (splice C (i * 3) news).toArray := ⟨_, rfl⟩
  rw [← hW1] at hrun
  have hR1 : RowIs W1 g (splice C (i * 3) news) := by rw [hW1]; exact setRow_heap w.drew g C.toArray _ 65 _ hg
  have hl1 : (splice C (i * 3) news).length = cap * 3 := by rw [length_splice _ _ _ (by omega)]; exact hCl
  have hcl : ∀ ty c, (Builtin.clear_ #[58] ty #[.slice (some ⟨g, (i + (n - (i + 1))) * 3, none⟩) (n - (i + (n - (i + 1)))) c]).run Tryd.prog W1 = .ok (.tuple #[]) (W1.setRow g (splice (splice C (i * 3) news) ((i + (n - (i + 1))) * 3) zeros3).toArray) := fun ty c => by
    rw [show n - (i + (n - (i + 1))) = 1 by omega]
    exact run_clear3 W1 ty g _ c _ hR1 (by rw [hl1]; omega)
  obtain ⟨W2, hW2⟩ : ∃ W2, W2 = W1.setRow g (splice (splice C (i * 3) news) ((i + (n - (i + 1))) * 3) zeros3).toArray := ⟨_, rfl⟩
  rw [← hW2] at hcl
  have FIN := Lib.hid (show DelPost g n cap xs w (.returned (.slice (some ⟨g, 0, none⟩) (i + (n - (i + 1))) cap)) W2 from by
    have e0 : i + (n - (i + 1)) = n - 1 := by omega
    refine ⟨by rw [e0], ⟨splice (splice C (i * 3) news) ((i + (n - (i + 1))) * 3) zeros3, ?_, ?_, ?_⟩, ?_⟩
    · rw [hW2]; exact setRow_heap W1 g _ _ 65 _ hR1
    · rw [length_splice _ _ _ (by rw [hl1]; simp; omega)]; exact hl1
    · rw [e0, take_splice _ _ _ (by rw [hl1]; omega), show (n - 1) * 3 = i * 3 + news.length by omega, take_splice_all _ _ _ (by omega), hx, hnews]
    · rw [hW2]; exact ((Only.refl [g] w).drew.trans (by rw [hW1]; exact only_setRow _ _ _)).trans (only_setRow _ _ _))
  have htn : ((i : Int) + 1).toNat = i + 1 := by omega
  have hb0 : ¬ (cap = i) := by omega
  have hb1 : i ≤ cap := by omega
  have hb2 : ((i : Int) + 1) ≤ (n : Int) := by omega
  have hb3 : (0 : Int) ≤ (i : Int) + 1 := by omega
  have hb4 : i + 1 ≤ cap := by omega
  have HR := Lib.hid hrun
  have HCL := Lib.hid hcl
  clear hrun hcl hW1 hW2 hR1 hl1 hx hnews hnl hn1 h1 hCl hg hi0 hz0 hz1 hz2
  go_enter Tryd.func39, Tryd.ntmps39
  go_wp2_with fail
  go_region_law (refine step_appendR rfl (.tmp 22) (.tmp 25) 58 58 rfl _ _ (by simp [Act.eval, Act.put]) (by simp [Act.eval, Act.put]) (HR.out _) ?_)
  have hcl := HCL.out
  go_wp2
  go_ret
  exact FIN.out

set_option maxHeartbeats 4000000 in
set_option maxRecDepth 100000 in
/-- The last block of a slice that is full. -/
theorem delete_last (g i : Nat) (C : List Value) (w : World) (hg : RowIs w g C) (hc63 : i + 1 ≤ 9223372036854775807) (hCl : C.length = (i + 1) * 3) :
    Calls Tryd.prog 39 #[.slice (some ⟨g, 0, none⟩) (i + 1) (i + 1), .int .i64 i, .int .i64 ((i : Int) + 1)] w (DelPost g (i + 1) (i + 1) (C.take (i * 3)) w) := by
  obtain ⟨i0, hi0, hz0, hz1, hz2⟩ := info_parts info_blk
  have hrun : ∀ ty, (Builtin.append_ #[58, 58] ty #[.slice (some ⟨g, 0, none⟩) i (i + 1), .slice (some ⟨g, 0, none⟩) 0 0]).run Tryd.prog w.drew =
      .ok (.slice (some ⟨g, 0, none⟩) i (i + 1)) w.drew := fun ty => by
    have := run_append_room (P := Tryd.prog) w.drew 58 ty 65 i0 Tryd.underlying58 hi0 g i (i + 1) C.toArray hg ⟨g, 0, none⟩ 0 0 [] (by simp)
      (fun j u hu => by simp at hu) (by simp) (by omega) (by rw [hz1]; simp; omega)
    rw [this, hz1]
    simp only [List.append_nil, List.length_nil, Nat.add_zero, List.take_append_drop]
    rw [setRow_self w.drew g C.toArray 65 (0, 0) hg]
  have hcl : ∀ ty c, (Builtin.clear_ #[58] ty #[.slice (some ⟨g, i * 3, none⟩) 1 c]).run Tryd.prog w.drew = .ok (.tuple #[]) (w.drew.setRow g (splice C (i * 3) zeros3).toArray) := fun ty c =>
    run_clear3 w.drew ty g _ c _ hg (by rw [hCl]; omega)
  obtain ⟨W2, hW2⟩ : ∃ W2, W2 = w.drew.setRow g (splice C (i * 3) zeros3).toArray := ⟨_, rfl⟩
  rw [← hW2] at hcl
  have FIN := Lib.hid (show DelPost g (i + 1) (i + 1) (C.take (i * 3)) w (.returned (.slice (some ⟨g, 0, none⟩) i (i + 1))) W2 from by
    refine ⟨rfl, ⟨splice C (i * 3) zeros3, ?_, ?_, ?_⟩, ?_⟩
    · rw [hW2]; exact setRow_heap w.drew g _ _ 65 _ hg
    · rw [length_splice _ _ _ (by rw [hCl]; simp; omega)]; exact hCl
    · exact take_splice _ _ _ (by rw [hCl]; omega)
    · rw [hW2]; exact (Only.refl [g] w).drew.trans (only_setRow _ _ _))
  have htn : ((i : Int) + 1).toNat = i + 1 := by omega
  have hb1 : i ≤ i + 1 := by omega
  have hb3 : (0 : Int) ≤ (i : Int) + 1 := by omega
  have hb5 : ¬ (i + 1 = i) := by omega
  have hb6 : (i : Int) ≤ (i : Int) + 1 := by omega
  have HR := Lib.hid hrun
  have HCL := Lib.hid hcl
  clear hrun hcl hW2 hCl hg hi0 hz0 hz1 hz2
  go_enter Tryd.func39, Tryd.ntmps39
  go_wp2_with fail
  go_region_law (refine step_appendR rfl (.tmp 22) (.tmp 25) 58 58 rfl _ _ (by simp [Act.eval, Act.put]) (by simp [Act.eval, Act.put]) (HR.out _) ?_)
  have hcl := HCL.out
  go_wp2
  go_ret
  exact FIN.out

/-- What an edit of a slice of blocks leaves: the blocks L; in the slice's own block, or in a new one. -/
def EditPost (B : Nat) (v : Value) (L : List Blk) (w : World) (e : Ending) (w' : World) : Prop := ∃ v', e = .returned v' ∧ w'.ownsRow B 65 3 v' L.length (flat L) ∧
  (∀ k, v'.ownBlock = some k → v.ownBlock = some k ∨ w.heap.size ≤ k) ∧ Only v.ownBlock.toList w w'

theorem delete_row {w : World} {B : Nat} {v : Value} {L : List Blk} (h : w.ownsRow B 65 3 v L.length (flat L)) (i : Nat) (hi : i < L.length) :
    Calls Tryd.prog 39 #[v, .int .i64 i, .int .i64 ((i : Int) + 1)] w (EditPost B v (L.take i ++ L.drop (i + 1)) w) := by
  rcases h.2 with ⟨rfl, e⟩ | ⟨g, cap, cur, rfl, hb, hgg, hn, hm, hsz, ht⟩
  · omega
  · unfold maxLen at hm
    have hR : RowIs w g cur.toList := by unfold RowIs; simpa using hgg
    have hl : cur.toList.length = cap * 3 := by simpa using hsz
    have x1 : cur.toList.take (i * 3) = flat (L.take i) := by
      rw [flat_take, ← ht, List.take_take, Nat.min_eq_left (by omega)]
    have x2 : (cur.toList.drop ((i + 1) * 3)).take ((L.length - 1 - i) * 3) = flat (L.drop (i + 1)) := by
      rw [flat_drop, ← ht, List.drop_take, show L.length * 3 - (i + 1) * 3 = (L.length - 1 - i) * 3 by omega]
    have hlen : (L.take i ++ L.drop (i + 1)).length = L.length - 1 := by simp; omega
    have fin : ∀ e w', DelPost g L.length cap (flat (L.take i ++ L.drop (i + 1))) w e w' → EditPost B (.slice (some ⟨g, 0, none⟩) L.length cap) (L.take i ++ L.drop (i + 1)) w e w' := by
      rintro e w' ⟨rfl, ⟨C, hC, hCl, hCt⟩, ho⟩
      refine ⟨_, rfl, ?_, fun k hk => .inl (by simpa [Value.ownBlock] using hk), by simpa [Value.ownBlock] using ho⟩
      rw [hlen]
      refine ⟨by rw [flat_length, hlen], .inr ⟨g, cap, C.toArray, rfl, hb, hC, by omega, by unfold maxLen; exact hm, by simpa using hCl, by simpa using hCt⟩⟩
    by_cases hc : cap = i + 1
    · have hL : L.length = i + 1 := by omega
      have := delete_last g i cur.toList w hR (by omega) (by rw [hl, hc])
      rw [hL, hc] at fin ⊢
      refine this.mono fun e w' hp => fin e w' ?_
      rw [flat_append, List.drop_of_length_le (by omega), show flat ([] : List Blk) = [] from rfl, List.append_nil, ← x1]; exact hp
    · refine (delete_mid g L.length cap i cur.toList _ w hR hi hn (by omega) hl (by rw [ht]; exact fun v hv => flat_one L v hv) (by rw [x1, x2, flat_append]) hc).mono fin
end Go.Proofs.YtlodelcenejfhaaDoor
