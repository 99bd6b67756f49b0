/- Contract of the statements' help Same: at nil and nil it answers true; at an error of places and a kind and the Fail that lists the same places and that kind it answers true; nothing that was there has changed. The condition: the library's variable errors.errorType holds the type error. -/
import Derived.Test.YtobbmhboahognaaDoorErrAs2
import Derived.Test.YtobbmhboahognaaDoorKeepKind
import Derived.Deep.QuietTactic
import Derived.BigQuiet
import Derived.Test.YtobbmhboahognaaDoorQuietFrom
namespace Go.Proofs.YtobbmhboahognaaDoor
open Go.RowKit Go.Extern.Stop Go.Stop Go.Extern

/-- What errors.As leaves: the target told, of what was there below its block nothing turned. -/
structure AsTold (w w' : World) (tb : Nat) (v : Value) : Prop where
  told : w'.cell? ⟨tb, 0, none⟩ = some v
  below : Below tb w w'
  size : w.heap.size ≤ w'.heap.size

theorem as_hit_told (e : Addr) (tb : Nat) (old : Value) (w : World) (hg : ErrType w) (ht0 : w.cell? ⟨tb, 0, none⟩ = some old) (hf0 : w.frozen? ⟨tb, 0, none⟩ = false) :
    Calls Tryd.prog 53 #[.iface 108 (.pointer (some e)), .iface 110 (.pointer (some ⟨tb, 0, none⟩))] w fun ev w' => ev = .returned (.bool true) ∧ AsTold w w' tb (.pointer (some e)) := by
  have htl : tb < w.heap.size := by
    rcases Nat.lt_or_ge tb w.heap.size with h | h
    · exact h
    · simp [World.cell?, Array.getElem?_eq_none h] at ht0
  refine (as_hit e ⟨tb, 0, none⟩ old w hg ht0 hf0).mono ?_
  rintro ev w' ⟨rfl, rfl⟩
  refine ⟨rfl, ?_, ?_, ?_⟩
  · refine World.cell?_setCell_same _ _ _ (u := old) ?_
    rw [World.cell?_alloc_lt _ _ _ (by simp; omega), World.cell?_alloc_lt _ _ _ (by simp; omega), World.cell?_alloc_lt _ _ _ (by simp; omega), World.cell?_alloc_lt _ _ _ htl]; exact ht0
  · exact (((((Below.refl tb w).alloc (by omega) _).alloc (by simp; omega) _).alloc (by simp; omega) _).alloc (by simp; omega) _).setCell (Nat.le_refl _) _
  · simp [World.setCell]; omega

theorem as_miss_below (k : Int) (t : Addr) (w : World) (hg : ErrType w) :
    Calls Tryd.prog 53 #[.iface 55 (.int .i64 k), .iface 110 (.pointer (some t))] w fun ev w' => ev = .returned (.bool false) ∧ Below w.heap.size w w' := by
  refine (as_miss k t w hg).mono ?_
  rintro ev w' ⟨rfl, rfl⟩
  exact ⟨rfl, (((Below.refl _ w).alloc (Nat.le_refl _) _).alloc (by simp) _).alloc (by simp; omega) _⟩

/-- The statements' Fail in memory: its places, its kind. -/
def FailAt (W : World) (F : Value) (l : List (ByteArray × Int)) (k : Int) : Prop := ∃ b bl bp cl cp : Nat, F = .pointer (some ⟨b, 0, none⟩) ∧
  W.cell? ⟨b, 0, none⟩ = some (.slice (some ⟨bl, 0, none⟩) l.length cl) ∧ W.cell? ⟨b, 1, none⟩ = some (.slice (some ⟨bp, 0, none⟩) l.length cp) ∧ W.cell? ⟨b, 2, none⟩ = some (.int .i64 k) ∧
  (∀ j (h : j < l.length), W.cell? ⟨bl, j, none⟩ = some (.string l[j].1)) ∧ (∀ j (h : j < l.length), W.cell? ⟨bp, j, none⟩ = some (.int .i64 l[j].2))

set_option maxHeartbeats 400000 in
theorem same_nil (w : World) : Calls Tryd.prog 14 #[.nilIface, .pointer none] w fun e w' => e = .returned (.bool true) ∧ w = w' := by
  go_enter Tryd.func14, Tryd.ntmps14
  go_wp2
  go_ret
  exact ⟨rfl, rfl⟩

theorem cell_lt {w : World} {b o : Nat} {v : Value} (h : w.cell? ⟨b, o, none⟩ = some v) : b < w.heap.size := by
  rcases Nat.lt_or_ge b w.heap.size with g | g
  · exact g
  · simp [World.cell?, Array.getElem?_eq_none g] at h

theorem errType_below {B : Nat} {w w' : World} (hb : Below B w w') (hg : ErrType w) (hB : 0 < B) : ErrType w' := by
  unfold ErrType at *
  rw [hb.cell (p := ⟨0, 0, none⟩) hB]; exact hg

set_option maxHeartbeats 4000000 in
set_option maxRecDepth 100000 in
theorem same_any {W : World} (E F : Value) (l : List (ByteArray × Int)) (k : Int) (hE : ErrAt W E l k) (hF : FailAt W F l k) (hl : l.length < 9223372036854775807) (h1 : 1 ≤ k) (h10 : k ≤ 10) (hg : ErrType W) :
    Calls Tryd.prog 14 #[E, F] W fun e w' => e = .returned (.bool true) ∧ Below W.heap.size W w' := by
  obtain ⟨b, bl, bp, cl, cp, rfl, f0, f1, f2, fl, fp⟩ := hF
  have kd : ∀ n, Calls Tryd.prog 52 #[E] (W.drewN n) fun e w' => e = .returned (.int .i64 k) ∧ w' = W.drewN n := fun n =>
    (kind_any (W := W.drewN n) E l k (hE.mono fun p v h => by rw [World.cell?_drewN]; exact h) h1 h10).mono fun _ _ h => ⟨h.1, h.2.symm⟩
  have KD := Lib.hid kd
  clear kd
  obtain ⟨u1, v1, rfl⟩ := hE.iface
  have HE := Lib.hid hE
  have FL := Lib.hid fl
  have FP := Lib.hid fp
  clear hE fl fp
  go_enter Tryd.func14, Tryd.ntmps14
  go_wp2_with fail
  go_quiet ((go_at_call 52; exact Calls.quiet_of_same (KD.out _)))
  go_wp2_with fail
  go_loopw [0, 5] (fun E' vi wr => ∃ j : Nat, j ≤ l.length ∧ vi = .int .i64 j ∧ ErrAt wr E' (l.drop j) k ∧ Below W.heap.size W wr) (fun _ i _ => l.length - (intOf i).toNat)
  case atStart =>
    refine ⟨0, Nat.zero_le _, rfl, ?_, ⟨rfl, rfl, rfl, Nat.le_refl _, fun _ _ => rfl⟩⟩
    exact HE.out.mono fun p v h => by rw [World.cell?_drewN]; exact h
  case round =>
    obtain ⟨j, hj, rfl, hE', hbr⟩ := hrel
    have lb := cell_lt f0
    have g0 : wr.cell? ⟨b, 0, none⟩ = some (.slice (some ⟨bl, 0, none⟩) l.length cl) := by rw [hbr.cell (p := ⟨b, 0, none⟩) lb]; exact f0
    have g1 : wr.cell? ⟨b, 1, none⟩ = some (.slice (some ⟨bp, 0, none⟩) l.length cp) := by rw [hbr.cell (p := ⟨b, 1, none⟩) lb]; exact f1
    have hgr := errType_below hbr hg (cell_lt hg)
    by_cases hlt : j < l.length
    · have c1 := FL.out j hlt
      have c2 := FP.out j hlt
      have c1' : wr.cell? ⟨bl, j, none⟩ = some (.string l[j].1) := by rw [hbr.cell (p := ⟨bl, j, none⟩) (cell_lt c1)]; exact c1
      have c2' : wr.cell? ⟨bp, j, none⟩ = some (.int .i64 l[j].2) := by rw [hbr.cell (p := ⟨bp, j, none⟩) (cell_lt c2)]; exact c2
      rw [List.drop_eq_getElem_cons hlt] at hE'
      obtain ⟨y, n, el⟩ : ∃ y n, l[j] = (y, n) := ⟨_, _, rfl⟩
      rw [el] at c1' c2' hE'
      clear c1 c2 el
      cases hE' with
      | place eb _ _ inner _ _ e0 e1 e2 e3 =>
      have IN := Lib.hid e3
      obtain ⟨u2, v2, rfl⟩ := e3.iface
      clear e3
      have keepS : ∀ w', Below wr.heap.size wr w' → w'.cell? ⟨b, 0, none⟩ = some (.slice (some ⟨bl, 0, none⟩) l.length cl) ∧ w'.cell? ⟨b, 1, none⟩ = some (.slice (some ⟨bp, 0, none⟩) l.length cp) ∧
          w'.cell? ⟨bl, j, none⟩ = some (.string y) ∧ w'.cell? ⟨bp, j, none⟩ = some (.int .i64 n) ∧ w'.cell? ⟨eb, 0, none⟩ = some (.string y) ∧ w'.cell? ⟨eb, 1, none⟩ = some (.int .i64 n) := fun w' hb =>
        ⟨by rw [hb.cell (p := ⟨b, 0, none⟩) (cell_lt g0)]; exact g0, by rw [hb.cell (p := ⟨b, 1, none⟩) (cell_lt g1)]; exact g1, by rw [hb.cell (p := ⟨bl, j, none⟩) (cell_lt c1')]; exact c1',
          by rw [hb.cell (p := ⟨bp, j, none⟩) (cell_lt c2')]; exact c2', by rw [hb.cell (p := ⟨eb, 0, none⟩) (cell_lt e0)]; exact e0, by rw [hb.cell (p := ⟨eb, 1, none⟩) (cell_lt e1)]; exact e1⟩
      have KS := Lib.hid keepS
      have hi0 : (0 : Int) ≤ (j : Int) := Int.natCast_nonneg _
      have hi1 : (j : Int) < (l.length : Int) := by omega
      clear keepS
      go_wp2_with fail
      refine wp_region_any (by kernel_rfl) ?_
      change wpAny _ _ _ _ _ _ _ (World.drew _)
      refine wpAny_take (i := 0) (v := ?_) rfl (by kernel_rfl) (by kernel_rfl) (by kernel_rfl) (fun _ _ _ h => h) (Or.inl ⟨by rfl, ?_⟩) ?_
      rotate_left
      · (intro w; go_simp; first | done | with_reducible rfl)
      refine wpAny_take (i := 1) (v := ?_) rfl (by kernel_rfl) (by kernel_rfl) (by kernel_rfl) (fun _ _ _ h => h) (Or.inl ⟨by rfl, ?_⟩) ?_
      rotate_left
      · (intro w; go_simp; first | done | with_reducible rfl)
      refine wpAny_ready (rs := [2]) (by kernel_rfl) (by simp) ?_
      refine AllReady.cons rfl (fun K hK => ?_) AllReady.nil
      go_simp
      go_at_call 53
      refine (as_hit_told _ _ (.pointer none) _ ?_ ?_ ?_).mono ?_
      · exact errType_below (((Below.refl _ _).alloc (Nat.le_refl _) _).drew) hgr (cell_lt hgr)
      · simp
      · simp
      rintro ev w1 ⟨rfl, hAs⟩
      have hb1 : Below wr.heap.size wr w1 := (((Below.refl _ _).alloc (Nat.le_refl _) _).drew).trans (hAs.below)
      have ht1 := hAs.told
      obtain ⟨k0, k1, k2, k3, k4, k5⟩ := KS.out _ hb1
      have k6 : w1.cell? ⟨eb, 2, none⟩ = some (.iface u2 v2) := by rw [hb1.cell (p := ⟨eb, 2, none⟩) (cell_lt e2)]; exact e2
      refine hK _ _ ?_
      clear hK K
      try simp only [Act.put, List.setIfInBounds_toArray, List.set_cons_zero, List.set_cons_succ]
      refine wpAny_quiet_from 3 (by kernel_rfl) (by kernel_rfl) (by kernel_rfl) ?_
      simp only [List.drop_succ_cons, List.drop_zero]
      repeat (first | go_big_quiet_step (fail) | quiet_step (fail))
      refine wpQuiet_nil ?_
      intro _ hw'
      obtain ⟨nq, hw''⟩ := hw'
      subst hw''
      have hb2 : Below wr.heap.size wr (w1.drewN nq) := ⟨hb1.os, hb1.tape, hb1.output, hb1.size, hb1.block⟩
      have IN2 := Lib.hid (IN.out.mono fun p v h => by rw [hb2.cell (World.block_lt_of_cell? _ _ h)]; exact h)
      have hbr2 : Below W.heap.size W (w1.drewN nq) := hbr.trans (hb2.mono hbr.size)
      go_wp2_with fail
      go_roundw
      case rel => exact ⟨j + 1, by omega, by go_num, IN2.out, hbr2⟩
      case measure => simp [intOf]; omega
    · have hjl : l.drop j = [] := List.drop_of_length_le (by omega)
      rw [hjl] at hE'
      have hlt' : (l.length : Int) ≤ (j : Int) := by omega
      cases hE' with
      | kind k =>
      have hb3 : Below wr.heap.size wr (wr.alloc (.cells #[.pointer none] 108)) := (Below.refl _ _).alloc (Nat.le_refl _) _
      have hg3 := errType_below hb3 hgr (cell_lt hgr)
      clear hjl
      go_wp2_with fail
      go_at_call 53
      refine (as_miss_below _ _ _ hg3).mono ?_
      rintro ev w1 ⟨rfl, hb4⟩
      go_wp2_with fail
      go_ret
      exact ⟨rfl, hbr.trans ((hb3.trans (hb4.mono (by simp))).mono hbr.size)⟩
end Go.Proofs.YtobbmhboahognaaDoor
