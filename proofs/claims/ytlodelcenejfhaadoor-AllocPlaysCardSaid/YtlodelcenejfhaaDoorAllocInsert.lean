/- The library's Insert at a slice of blocks (layer 3), one block laid in: what the slice holds behind the call. The conditions: the slice lies in memory of the program's own, with fewer than 2^31 elements; the place is of the slice, or its end. -/
import Derived.Test.YtlodelcenejfhaaDoorAllocDelete
namespace Go.Proofs.YtlodelcenejfhaaDoor
open Go.RowKit Go.Shelf
set_option linter.unusedVariables false

def Blk.cs (b : Blk) : List Value := [.int .i64 b.p, .int .i64 b.n, .int .i64 b.k]
theorem ownsRow_base {w : World} {B B' : Nat} {t : TypeId} {s : Nat} {v : Value} {n : Nat} {xs : List Value} (h : w.ownsRow B t s v n xs) (hb : B' ≤ B) : w.ownsRow B' t s v n xs := by
  refine ⟨h.1, ?_⟩
  rcases h.2 with hn | ⟨g, cap, cur, rfl, hb', rest⟩
  · exact .inl hn
  · exact .inr ⟨g, cap, cur, rfl, by omega, rest⟩
theorem only_grown {w w' : World} {r : Option Nat} (h : w.grownBy w' r) : Only r.toList w w' :=
  ⟨h.os, h.tape, h.output, h.size, fun k hk hn => h.block k hk (fun e => hn (by rw [← e]; simp))⟩

/-- One block behind the others. -/
theorem run_append_blk {w : World} {B : Nat} {v : Value} {L : List Blk} (h : w.ownsRow B 65 3 v L.length (flat L)) (hs : L.length < 2147483648) (b : Blk) (q : Nat) (hq : RowIs w q b.cs) (hB : B ≤ w.heap.size) (ty : TypeId) :
    ∃ v' w', (Builtin.append_ #[58, 58] ty #[v, .slice (some ⟨q, 0, none⟩) 1 1]).run Tryd.prog w = .ok v' w' ∧ EditPost B v (L ++ [b]) w (.returned v') w' := by
  obtain ⟨i0, hi0, hz0, hz1, hz2⟩ := info_parts info_blk
  have hsrc : ∀ j u, b.cs[j]? = some u → w.cell? ((⟨q, 0, none⟩ : Addr).add j) = some u := hq.src 0 b.cs (by simp)
  have h1 : ∀ u ∈ b.cs, u.oneCell' = true := by intro u hu; simp [Blk.cs] at hu; rcases hu with rfl | rfl | rfl <;> rfl
  have hm : L.length + 1 ≤ maxLen := by unfold maxLen; omega
  have hfl : flat (L ++ [b]) = flat L ++ b.cs := by rw [flat_append]; rfl
  have hll : (L ++ [b]).length = L.length + 1 := by simp
  obtain ⟨v', w', hr, h2, h3, h4⟩ := run_append_own (P := Tryd.prog) w B 58 ty 65 i0 _ 3 24 Tryd.underlying58 hi0 hz0 hz1 hz2 rfl (by decide) v L.length (flat L) h ⟨q, 0, none⟩ 1 1 b.cs rfl hsrc h1 hm (by omega) hB
  refine ⟨v', w', hr, v', rfl, by rw [hll, hfl]; exact h2, ?_, only_grown h3⟩
  intro k hk
  rcases h.2 with ⟨rfl, e⟩ | ⟨g, cap, cur, rfl, hb, hgg, hn, hmc, hsz, ht⟩
  · obtain ⟨v2, w2, hr2, k2, _, _⟩ := run_append_own (P := Tryd.prog) w w.heap.size 58 ty 65 i0 _ 3 24 Tryd.underlying58 hi0 hz0 hz1 hz2 rfl (by decide) (.slice none 0 0) 0 [] (World.ownsRow_nil _ _ _ _) ⟨q, 0, none⟩ 1 1 b.cs rfl hsrc h1 (by unfold maxLen; omega) (by omega) (Nat.le_refl _)
    rw [hr] at hr2
    cases hr2
    exact .inr (k2.lt k hk).1
  · by_cases hroom : L.length + 1 ≤ cap
    · have hr2 := run_append_room (P := Tryd.prog) w 58 ty 65 i0 Tryd.underlying58 hi0 g L.length cap cur hgg ⟨q, 0, none⟩ 1 1 b.cs (by rw [hz1]; rfl) hsrc h1 hroom (by rw [hz1, hsz]; simp [Blk.cs]; omega)
      rw [hr] at hr2
      cases hr2
      exact .inl hk
    · have hr2 := run_append_grow (P := Tryd.prog) w 58 ty 65 i0 _ Tryd.underlying58 hi0 hz0 ⟨g, 0, none⟩ L.length cap (flat L) (by rw [hz1]; exact flat_length L) (by exact h.cells (g := g) rfl) ⟨q, 0, none⟩ 1 1 b.cs (by rw [hz1]; rfl) hsrc (by omega) (by omega) (by rw [hz2]; exact growslice_fits (by omega) (by omega))
      rw [hr] at hr2
      cases hr2
      refine .inr ?_
      simp only [Value.ownBlock, Option.some.injEq] at hk
      omega

set_option maxHeartbeats 4000000 in
set_option maxRecDepth 100000 in
/-- At the end. -/
theorem insert_end {w : World} {B : Nat} {v : Value} {L : List Blk} (h : w.ownsRow B 65 3 v L.length (flat L)) (hs : L.length < 2147483648) (b : Blk) (q : Nat) (hq : RowIs w q b.cs) (hB : B ≤ w.heap.size) :
    Calls Tryd.prog 45 #[v, .int .i64 L.length, .slice (some ⟨q, 0, none⟩) 1 1] w (EditPost B v (L ++ [b]) w) := by
  have RU := Lib.hid (run_append_blk h hs b q hq hB)
  rcases h.2 with ⟨rfl, e⟩ | ⟨g, cap, cur, rfl, hb, hgg, hn, hmc, hsz, ht⟩
  · obtain rfl : L = [] := List.eq_nil_of_length_eq_zero e
    obtain ⟨v', w', hr, hp⟩ := RU.out 58
    have HP := Lib.hid hp
    have HR := Lib.hid hr
    clear h hp hr
    go_enter Tryd.func45, Tryd.ntmps45
    go_wp2_with (at_builtin; refine Lib.wpList_append_run _ rfl _ _ 58 58 rfl _ _ rfl rfl _ _ HR.out ?_)
    go_ret
    exact HP.out
  · obtain ⟨n, hnl⟩ : ∃ n, n = L.length := ⟨_, rfl⟩
    obtain ⟨v', w', hr, hp⟩ := RU.out 58
    rw [← hnl] at hr hs hn ⊢
    rw [← hnl] at hp
    have HP := Lib.hid hp
    have HR := Lib.hid hr
    clear h hp hr RU hnl hgg hmc hsz ht
    by_cases hc : cap = n
    · subst hc
      go_enter Tryd.func45, Tryd.ntmps45
      go_wp2_with (at_builtin; refine Lib.wpList_append_run _ rfl _ _ 58 58 rfl _ _ rfl rfl _ _ HR.out ?_)
      go_ret
      exact HP.out
    · go_enter Tryd.func45, Tryd.ntmps45
      go_wp2_with (at_builtin; refine Lib.wpList_append_run _ rfl _ _ 58 58 rfl _ _ rfl rfl _ _ HR.out ?_)
      go_ret
      exact HP.out
end Go.Proofs.YtlodelcenejfhaaDoor
