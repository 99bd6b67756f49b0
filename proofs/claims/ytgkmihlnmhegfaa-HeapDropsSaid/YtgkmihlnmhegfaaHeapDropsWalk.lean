/- The walk of HeapDrops: it returns true; of what was there nothing has turned. -/
import Derived.Test.YtgkmihlnmhegfaaHeapLaw
import Derived.Test.YtgkmihlnmhegfaaKeepWithin
namespace Go.Proofs.Ytgkmihlnmhegfaa
open Go.RowKit
set_option linter.unusedVariables false

set_option maxHeartbeats 2000000 in
set_option maxRecDepth 100000 in
theorem heapDrops_long (w : World) (A : Option Addr) (cap n : Nat) (d : Value) (h0 : 100 < n) (hl : n ≤ 9223372036854775807) :
    Calls Try.prog 6 #[.slice A n cap, d] w fun e w' => e = .returned (.bool true) ∧ Below w.heap.size w w' := by
  have NW := Lib.hid (newAwake w)
  have AW := Lib.hid awake_any
  go_enter Try.func6, Try.ntmps6
  go_wp2_with fail
  go_at_call 8
  refine NW.out.mono ?_
  rintro e w1 ⟨rfl, hb⟩
  go_wp2_with fail
  go_at_call 21
  refine (AW.out _).mono ?_
  rintro e w2 ⟨rfl, hb2⟩
  go_wp2_with fail
  go_ret
  exact ⟨rfl, hb.trans (hb2.mono hb.size)⟩

/-- The queue holds just those that are not gone. -/
structure GoneI (w0 : World) (B0 : Nat) (W : World) (b mb N sb : Nat) (v : Value) (zs : List Int) (n c cnt : Nat) (S : List Itm) (f : Nat → Bool) : Prop where
  at1 : Since w0 B0 W b mb N v c S n
  row : Row W sb (boolsT f n)
  vb : v.ownBlock ≠ some sb
  bs : b ≠ sb ∧ mb ≠ sb ∧ B0 ≤ sb
  mem : ∀ j, j < n → (itmOf zs j ∈ S ↔ f j = false)
  fro : ∀ y ∈ S, ∃ j, j < n ∧ y = itmOf zs j
  few : S.length + cnt ≤ n
section
variable {w0 W W' : World} {B0 b mb N sb : Nat} {v : Value} {zs : List Int} {n c cnt : Nat} {S T : List Itm} {f : Nat → Bool}
theorem itm_inj {zs : List Int} {i j : Nat} (h : itmOf zs i = itmOf zs j) : i = j := by
  have : (itmOf zs i).w = (itmOf zs j).w := by rw [h]
  simp [itmOf] at this; omega
/-- One more is gone. -/
theorem GoneI.take {v' : Value} {c' j : Nat} (h : GoneI w0 B0 W b mb N sb v zs n c cnt S f) (hj : j < n) (hp : S.Perm (itmOf zs j :: T)) (l : Led W b mb N v W' v' c' T n) :
    GoneI w0 B0 (W'.setCell ⟨sb, j, none⟩ (.bool true)) b mb N sb v' zs n c' (cnt + 1) T (fun q => f q || decide (j = q)) := by
  have hs := h.at1.led l
  have hsb := h.row.lt
  have hv' : v'.ownBlock ≠ some sb := fun e => by
    rcases l.jump sb e with e | e
    · exact h.vb e
    · omega
  have hsF : sb ∉ b :: mb :: v.ownBlock.toList := by
    simp only [List.mem_cons, not_or]
    exact ⟨fun e => h.bs.1 e.symm, fun e => h.bs.2.1 e.symm, fun e => h.vb (by simpa using e)⟩
  have r1 := h.row.only l.only hsF
  have r2 := r1.set j (by rw [boolsT_len]; exact hj) (.bool true)
  have o3 : Only [sb] W' (W'.setCell ⟨sb, j, none⟩ (.bool true)) := (Only.refl [sb] W').setCell (p := ⟨sb, j, none⟩) (Or.inl (by simp)) _
  have hnd : itmOf zs j ∉ T := fun hm => by
    have hS := h.at1.at1.sorted
    have hnd : (itmOf zs j :: T).Nodup := (hp.nodup_iff).1 (List.Pairwise.imp (fun {a b} hab e => by subst e; exact ltI_irrefl _ hab) hS)
    exact (List.nodup_cons.1 hnd).1 hm
  refine ⟨⟨hs.at1.only o3 (by simpa using h.bs.1) (by simpa using h.bs.2.1) (fun q hq => by simp; intro e; subst e; exact hv' hq), hs.hb, hs.hm, hs.hN, hs.bel.trans (o3.below (fun q hq => by simp at hq; subst hq; exact h.bs.2.2) (by have := hs.at1.facts; have := hs.hN; omega))⟩, ?_, hv', h.bs, fun q hq => ?_, fun y hy => h.fro y (hp.mem_iff.2 (List.mem_cons_of_mem _ hy)), by have e1 := hp.length_eq; rw [List.length_cons] at e1; have := h.few; omega⟩
  · rw [boolsT_set] at r2; exact r2
  · have h1 := h.mem q hq
    rw [hp.mem_iff, List.mem_cons] at h1
    by_cases e : j = q
    · subst e; simp [hnd]
    · have : itmOf zs q ≠ itmOf zs j := fun e' => e (itm_inj e').symm
      simp only [this, false_or] at h1
      simp [e, h1]
theorem GoneI.below (h : GoneI w0 B0 W b mb N sb v zs n c cnt S f) (hb : Below W.heap.size W W') : GoneI w0 B0 W' b mb N sb v zs n c cnt S f :=
  ⟨h.at1.below hb, h.row.below hb h.row.lt, h.vb, h.bs, h.mem, h.fro, h.few⟩
theorem GoneI.up {d : Nat} (h : GoneI w0 B0 W b mb N sb v zs n c cnt S f) (hd : c ≤ d) : GoneI w0 B0 W b mb N sb v zs n d cnt S f :=
  ⟨⟨h.at1.at1.mono hd, h.at1.hb, h.at1.hm, h.at1.hN, h.at1.bel⟩, h.row, h.vb, h.bs, h.mem, h.fro, h.few⟩
theorem GoneI.less {d : Nat} (h : GoneI w0 B0 W b mb N sb v zs n c cnt S f) (hd : d ≤ cnt) : GoneI w0 B0 W b mb N sb v zs n c d S f := ⟨h.at1, h.row, h.vb, h.bs, h.mem, h.fro, by have := h.few; omega⟩
theorem GoneI.noH (h : GoneI w0 B0 W b mb N sb v zs n c cnt S f) (k : Int) (hk : ∀ j, j < n → k = (j : Int) + 1 → f j = true) : ∀ x ∈ S, x.h ≠ k := by
  intro x hx e
  obtain ⟨j, hj, rfl⟩ := h.fro x hx
  have h1 := (h.mem j hj).1 hx
  rw [hk j hj e.symm] at h1
  cases h1
end

set_option maxHeartbeats 4000000 in
set_option maxRecDepth 100000 in
theorem heapDrops_walk (w : World) (A : Option Addr) (cap : Nat) (zs : List Int) (hl : zs.length ≤ maxLen) (hs : IntsIn w .u64 A zs) (hw : ∀ z ∈ zs, (Lit.int .u64 z).wf = true) (A2 : Option Addr) (cap2 : Nat) (ds : List Int) (hl2 : ds.length ≤ maxLen) (hs2 : IntsIn w .i64 A2 ds) (hw2 : ∀ z ∈ ds, (Lit.int .i64 z).wf = true) :
    Calls Try.prog 6 #[.slice A zs.length cap, .slice A2 ds.length cap2] w fun e w' => e = .returned (.bool true) ∧ Below w.heap.size w w' := by
  by_cases h0 : 100 < zs.length
  · exact heapDrops_long w A cap zs.length _ h0 (by unfold maxLen at hl; omega)
  · have NW := Lib.hid (newQ w w.heap.size w (Below.refl _ _) (Nat.le_refl _))
    have AW := Lib.hid awake_any
    have S := Lib.hid hs
    have S2 := Lib.hid hs2
    have U := Lib.hid (fun i h => u64_mem hw i h)
    obtain ⟨n, hn⟩ : ∃ n, n = zs.length := ⟨_, rfl⟩
    obtain ⟨m, hm⟩ : ∃ m, m = ds.length := ⟨_, rfl⟩
    have HN := Lib.hid hn
    have HMM := Lib.hid hm
    rw [← hn] at h0 ⊢
    rw [← hm] at hl2 ⊢
    unfold maxLen at hl2
    clear hl hs hw hn hs2 hw2 hm
    have mk := make_bools n (by omega)
    rw [made_bools] at mk
    have WN := Lib.hid (fun x W => within_any x ((n : Int) + 2) (by omega) (by omega) W)
    go_enter Try.func6, Try.ntmps6
    go_wp2_with fail
    go_at_call 8
    refine NW.out.mono ?_
    rintro e w1 ⟨rfl, h1⟩
    obtain ⟨b, hb⟩ : ∃ b, b = w.heap.size + 1 := ⟨_, rfl⟩
    obtain ⟨mb, hmb⟩ : ∃ mb, mb = w.heap.size := ⟨_, rfl⟩
    obtain ⟨N, hN⟩ : ∃ N, N = w.heap.size + 2 := ⟨_, rfl⟩
    rw [← hb, ← hN] at h1
    rw [show w.heap.size = mb from hmb.symm] at h1
    simp only [← hb]
    have HB := Lib.hid hb
    have HM := Lib.hid hmb
    have HNN := Lib.hid hN
    clear hb hmb hN
    have H1 := Lib.hid h1
    clear h1
    go_wp2_with fail
    go_loopw [6] (fun vi wr => ∃ (i : Nat) (v : Value), i ≤ n ∧ vi = .int .i64 i ∧ Hid (Since w mb wr b mb N v (i * 1000) (queue zs i) i)) (fun vi _ => n - (intOf vi).toNat)
    case atStart => exact ⟨0, _, Nat.zero_le _, rfl, H1⟩
    case round =>
      obtain ⟨i, v, hi, rfl, hq⟩ := hrel
      by_cases hlt : i < n
      · obtain ⟨a, rfl, hal, hac⟩ := ints_at S.out (by rw [← HN.out]; omega)
        have hci := hac i (by rw [← HN.out]; exact hlt)
        have hbel := hq.out.bel
        rw [HM.out] at hbel
        have hcr : wr.cell? (a.add i) = some (.int .u64 (zs.getD i 0)) := by rw [cell_below hbel hal]; exact hci
        have hql := queue_length zs i
        have PT := Lib.hid (putS hq.out.at1 (zs.getD i 0) i (by rw [hql]; omega) (by omega) (by rw [hql]; unfold maxLen; omega))
        have QS := Lib.hid (queue_succ zs i)
        obtain ⟨z, hz⟩ : ∃ z, z = zs.getD i 0 := ⟨_, rfl⟩
        rw [← hz] at hcr PT
        have hcv : IntKind.u64.wrap (i : Int) = (i : Int) := by rw [IntKind.wrap_u64]; omega
        have HZ := Lib.hid hz
        have HQL := Lib.hid hql
        clear hac hci hbel hz hql
        go_wp2_with fail
        go_at_call 16
        refine PT.out.mono ?_
        rintro e w2 ⟨rfl, v2, l2⟩
        have h2 := hq.out.led l2
        have H2 := Lib.hid (show Since w mb w2 b mb N v2 ((i + 1) * 1000) (queue zs (i + 1)) (i + 1) by
          rw [QS.out]
          have e : itmOf zs i = ⟨z, (i : Int), (i : Int) + 1⟩ := by rw [HZ.out]; rfl
          rw [e]
          exact ⟨h2.at1.mono (by rw [HQL.out]; omega), h2.hb, h2.hm, h2.hN, h2.bel⟩)
        clear l2 h2
        go_wp2_with fail
        go_roundw
        case rel => exact ⟨i + 1, v2, by omega, by go_num, H2⟩
        case measure => simp [intOf]; omega
      · obtain rfl : n = i := by omega
        have hq1 := hq.out
        obtain ⟨sb, hsb⟩ : ∃ sb, sb = wr.heap.size := ⟨_, rfl⟩
        have I0 : GoneI w mb (wr.alloc (.cells (boolsT (fun _ => false) n).toArray 4)) b mb N sb v zs n (n * 1000 + 0 * 1000) 0 (queue zs n) (fun _ => false) := by
          have hf := hq1.at1.facts
          refine ⟨⟨(hq1.at1.mono (by omega)).below ((Below.refl _ _).alloc (Nat.le_refl _) _), hq1.hb, hq1.hm, hq1.hN, hq1.bel.alloc (by have := hq1.hN; omega) _⟩, ?_, fun e => by have := (hq1.at1.own sb e).2; omega, ⟨by omega, by omega, by have := hq1.hN; omega⟩, fun j hj => ?_, fun y hy => queue_mem zs n y hy, by rw [queue_length]; omega⟩
          · have := Row.new wr (boolsT (fun _ => false) n) 4
            rw [← hsb] at this
            exact this
          · simp only [iff_true]
            exact (queue_perm zs n).mem_iff.2 (List.mem_map.2 ⟨j, List.mem_range.2 hj, rfl⟩)
        have II := Lib.hid I0
        clear I0 hq1 hq
        go_wp2_with fail
        simp only [← hsb]
        generalize wr.alloc (.cells (boolsT (fun _ => false) n).toArray 4) = W1 at *
        clear hsb mk
        obtain ⟨wq, hwq⟩ : ∃ wq, wq = wr := ⟨_, rfl⟩
        clear hwq
        go_loopw [8] (fun vi wr => ∃ (i : Nat) (v : Value) (T : List Itm) (f : Nat → Bool), i ≤ 100 ∧ i ≤ m ∧ vi = .int .i64 i ∧ Hid (GoneI w mb wr b mb N sb v zs n (n * 1000 + i * 1000) 0 T f)) (fun vi _ => 100 - (intOf vi).toNat)
        case atStart => exact ⟨0, _, _, _, Nat.zero_le _, Nat.zero_le _, rfl, II⟩
        case round =>
          obtain ⟨i, v, T, f, hi1, hi2, rfl, hg⟩ := hrel
          by_cases hlt : i < m ∧ i < 100
          · obtain ⟨hlm, hl100⟩ := hlt
            obtain ⟨a2, rfl, hal2, hac2⟩ := ints_at S2.out (by rw [← HMM.out]; omega)
            have hcx := hac2 i (by rw [← HMM.out]; exact hlm)
            have hbel := hg.out.at1.bel
            rw [HM.out] at hbel
            have hcr : wr.cell? (a2.add i) = some (.int .i64 (ds.getD i 0)) := by rw [cell_below hbel hal2]; exact hcx
            obtain ⟨x, hx⟩ : ∃ x, x = ds.getD i 0 := ⟨_, rfl⟩
            rw [← hx] at hcr
            have hsl := hg.out.few
            have hbs := hg.out.bs
            have hsbl := hg.out.row.lt
            have hmod : x % ((n : Int) + 2) = 0 ∨ x % ((n : Int) + 2) = (n : Int) + 1 ∨ ∃ j : Nat, j < n ∧ x % ((n : Int) + 2) = (j : Int) + 1 := by
              have b1 := Int.emod_nonneg x (show (n : Int) + 2 ≠ 0 by omega)
              have b2 := Int.emod_lt_of_pos x (show 0 < (n : Int) + 2 by omega)
              by_cases c1 : x % ((n : Int) + 2) = 0
              · exact .inl c1
              · by_cases c2 : x % ((n : Int) + 2) = (n : Int) + 1
                · exact .inr (.inl c2)
                · exact .inr (.inr ⟨(x % ((n : Int) + 2)).toNat - 1, by omega, by omega⟩)
            have WI := WN.out x
            have HMOD := Lib.hid hmod
            have HUP := Lib.hid (hg.out.up (d := n * 1000 + (i + 1) * 1000) (by omega))
            clear hx hcx hac2 hbel hmod
            rcases HMOD.out with hm | hm | ⟨j, hjn, hm⟩
            · rw [hm] at WI
              have WI2 := Lib.hid WI
              have DN := Lib.hid (dropS_no hg.out.at1.at1 0 (WalkArith.wf_i64 (by omega)) (hg.out.noH 0 (fun j hj e => by omega)))
              clear WI hm
              go_wp2_with fail
              go_at_call 9
              refine (WI2.out _).mono ?_
              rintro e w2 ⟨rfl, rfl⟩
              go_wp2_with fail
              go_at_call 10
              refine DN.out.mono ?_
              rintro e w3 ⟨rfl, rfl⟩
              go_wp2_with fail
              go_roundw
              case rel => exact ⟨i + 1, v, T, f, by omega, by omega, by go_num, HUP⟩
              case measure => simp [intOf]; omega
            · rw [hm] at WI
              have WI2 := Lib.hid WI
              have DN := Lib.hid (dropS_no hg.out.at1.at1 ((n : Int) + 1) (WalkArith.wf_i64 (by omega)) (hg.out.noH _ (fun j hj e => by omega)))
              have hnn : decide ((n : Int) < (n : Int)) = false := by simp
              clear WI hm
              go_wp2_with fail
              go_at_call 9
              refine (WI2.out _).mono ?_
              rintro e w2 ⟨rfl, rfl⟩
              go_wp2_with fail
              go_at_call 10
              refine DN.out.mono ?_
              rintro e w3 ⟨rfl, rfl⟩
              go_wp2_with fail
              go_roundw
              case rel => exact ⟨i + 1, v, T, f, by omega, by omega, by go_num, HUP⟩
              case measure => simp [intOf]; omega
            · rw [hm] at WI
              have WI2 := Lib.hid WI
              have hj0 : (0 : Int) ≤ (j : Int) := by omega
              have hj1 : (j : Int) < (n : Int) := by omega
              have hjd : decide ((j : Int) < (n : Int)) = true := by simp; omega
              have hjd2 : decide (j < n) = true := by simp; omega
              have hjv : IntKind.u64.wrap (j : Int) = (j : Int) := by rw [IntKind.wrap_u64]; omega
              have hsc := hg.out.row.cell j (by rw [boolsT_len]; exact hjn)
              rw [boolsT_get] at hsc
              clear WI hm
              by_cases hf : f j = true
              · rw [hf] at hsc
                have DN := Lib.hid (dropS_no hg.out.at1.at1 ((j : Int) + 1) (WalkArith.wf_i64 (by omega)) (hg.out.noH _ (fun q hq e => by
                  have : q = j := by omega
                  subst this; exact hf)))
                clear hf
                go_wp2_with fail
                go_at_call 9
                refine (WI2.out _).mono ?_
                rintro e w2 ⟨rfl, rfl⟩
                go_wp2_with fail
                go_at_call 10
                refine DN.out.mono ?_
                rintro e w3 ⟨rfl, rfl⟩
                go_wp2_with fail
                go_roundw
                case rel => exact ⟨i + 1, v, T, f, by omega, by omega, by go_num, HUP⟩
                case measure => simp [intOf]; omega
              · have hff : f j = false := by simpa using hf
                obtain ⟨X, Y, hXY⟩ := List.append_of_mem ((hg.out.mem j hjn).2 hff)
                have hat := hg.out.at1.at1
                rw [hXY] at hat
                have hlen : (X ++ itmOf zs j :: Y).length ≤ n := by rw [← hXY]; omega
                have DY := Lib.hid (dropS_yes hat ((j : Int) + 1) rfl (by omega) (by omega) (by unfold maxLen; omega))
                have hpm : T.Perm (itmOf zs j :: (X ++ Y)) := by rw [hXY]; exact List.perm_middle
                have HPM := Lib.hid hpm
                have HLEN := Lib.hid hlen
                rw [hff] at hsc
                have HSC := Lib.hid hsc
                clear hf hff hXY hat hpm hlen hsc
                dsimp only [itmOf] at DY
                go_wp2_with fail
                go_at_call 9
                refine (WI2.out _).mono ?_
                rintro e w2 ⟨rfl, rfl⟩
                go_wp2_with fail
                go_at_call 10
                refine DY.out.mono ?_
                rintro e w3 ⟨rfl, v', l⟩
                have hsF : sb ∉ b :: mb :: v.ownBlock.toList := by
                  simp only [List.mem_cons, not_or]
                  exact ⟨fun e => hbs.1 e.symm, fun e => hbs.2.1 e.symm, fun e => hg.out.vb (by simpa using e)⟩
                have r2 := hg.out.row.only l.only hsF
                have hsc3 : w3.cell? ⟨sb, j, none⟩ = some (.bool false) := by
                  rw [World.cell?_of_block (l.only.block sb hsbl hsF)]; exact HSC.out
                have hsf3 : w3.frozen? ⟨sb, j, none⟩ = false := r2.free j (by rw [boolsT_len]; exact hjn)
                have NX := Lib.hid (((hg.out.take hjn HPM.out l).less (d := 0) (by omega)).up (d := n * 1000 + (i + 1) * 1000) (by have := HLEN.out; simp [itmOf] at this ⊢; omega))
                clear r2 hsF l
                go_wp2_with fail
                go_roundw
                case rel => exact ⟨i + 1, v', _, _, by omega, by omega, by go_num, NX⟩
                case measure => simp [intOf]; omega
          · have G3 := Lib.hid (hg.out.up (d := n * 1000 + 100000 + 0 * 1000) (by omega))
            have hend : (¬ i < m) ∨ (i < m ∧ ¬ i < 100) := by omega
            clear hg hlt II
            rcases hend with hend | ⟨hend0, hend⟩
            all_goals
              go_wp2_with fail
              obtain ⟨wq, hwq⟩ : ∃ wq, wq = wr := ⟨_, rfl⟩
              clear hwq
              go_loopw [13] (fun vc wr => ∃ (k : Nat) (v : Value) (T : List Itm) (f : Nat → Bool), k ≤ n ∧ vc = .int .i64 k ∧ Hid (GoneI w mb wr b mb N sb v zs n (n * 1000 + 100000 + k * 1000) k T f)) (fun vc _ => n - (intOf vc).toNat)
              case atStart => exact ⟨0, _, _, _, Nat.zero_le _, rfl, G3⟩
              case round =>
                obtain ⟨k, v, T, f, hk, rfl, hg⟩ := hrel
                have hsl := hg.out.few
                have hbs := hg.out.bs
                have hsbl := hg.out.row.lt
                cases T with
                | nil =>
                  have PP := Lib.hid (popS_no hg.out.at1.at1 18446744073709551615 (by intro y T e; cases e) (by simp))
                  have ALL := Lib.hid (show ∀ j, j < n → f j = true from fun j hj => by
                    have := hg.out.mem j hj
                    simpa using this)
                  go_wp2_with fail
                  go_at_call 14
                  refine PP.out.mono ?_
                  rintro e w3 ⟨rfl, hb3⟩
                  have h3 := hg.out.below hb3
                  have H3 := Lib.hid h3
                  clear hb3 h3
                  go_wp2_with fail
                  go_loop [16] (fun vi => ∃ i : Nat, i ≤ n ∧ vi = .int .i64 i) (fun vi => n - (intOf vi).toNat)
                  case atStart => exact ⟨0, Nat.zero_le _, rfl⟩
                  case round =>
                    obtain ⟨q, hq, rfl⟩ := hrel
                    by_cases hqn : q < n
                    · have hsc := H3.out.row.cell q (by rw [boolsT_len]; exact hqn)
                      rw [boolsT_get, ALL.out q hqn] at hsc
                      have hq0 : (0 : Int) ≤ (q : Int) := by omega
                      have hq1 : (q : Int) < (n : Int) := by omega
                      go_wp2_with fail
                      go_round
                      case rel => exact ⟨q + 1, by omega, by go_num⟩
                      case measure => simp [intOf]; omega
                    · obtain rfl : n = q := by omega
                      go_wp2_with fail
                      go_at_call 21
                      refine (AW.out _).mono ?_
                      rintro e w5 ⟨rfl, hb5⟩
                      go_wp2_with fail
                      go_ret
                      have hbel := H3.out.at1.bel
                      rw [HM.out] at hbel
                      exact ⟨rfl, hbel.trans (hb5.mono hbel.size)⟩
                | cons y T =>
                  obtain ⟨j, hjn, hyj⟩ := hg.out.fro y (by simp)
                  have hat := hg.out.at1.at1
                  rw [hyj] at hat
                  have hlen : (itmOf zs j :: T).length + k ≤ n := hsl
                  have PP := Lib.hid (popS_yes hat 18446744073709551615 (U.out j (by rw [← HN.out]; exact hjn)).2 (by omega) (by omega) (by unfold maxLen; omega))
                  have hff := (hg.out.mem j hjn).1 (by rw [hyj]; simp)
                  have hsc := hg.out.row.cell j (by rw [boolsT_len]; exact hjn)
                  rw [boolsT_get, hff] at hsc
                  have HSC := Lib.hid hsc
                  have HPM := Lib.hid (show (y :: T).Perm (itmOf zs j :: T) by rw [hyj])
                  have HLEN := Lib.hid hlen
                  have hkn : k < n := by simp at hlen; omega
                  have hj0 : (0 : Int) ≤ (j : Int) := by omega
                  have hj1 : (j : Int) < (n : Int) := by omega
                  have hge : decide ((n : Int) ≤ (j : Int)) = false := by simp; omega
                  have hnv : IntKind.u64.wrap (n : Int) = (n : Int) := by rw [IntKind.wrap_u64]; omega
                  clear hat hlen hff hsc hyj
                  dsimp only [itmOf] at PP
                  go_wp2_with fail
                  go_at_call 14
                  refine PP.out.mono ?_
                  rintro e w3 ⟨rfl, v', l⟩
                  have hsF : sb ∉ b :: mb :: v.ownBlock.toList := by
                    simp only [List.mem_cons, not_or]
                    exact ⟨fun e => hbs.1 e.symm, fun e => hbs.2.1 e.symm, fun e => hg.out.vb (by simpa using e)⟩
                  have r2 := hg.out.row.only l.only hsF
                  have hsc3 : w3.cell? ⟨sb, j, none⟩ = some (.bool false) := by
                    rw [World.cell?_of_block (l.only.block sb hsbl hsF)]; exact HSC.out
                  have hsf3 : w3.frozen? ⟨sb, j, none⟩ = false := r2.free j (by rw [boolsT_len]; exact hjn)
                  have NX := Lib.hid ((hg.out.take hjn HPM.out l).up (d := n * 1000 + 100000 + (k + 1) * 1000) (by have := HLEN.out; simp at this ⊢; omega))
                  have hgt : decide ((n : Int) < (k : Int) + 1) = false := by simp; omega
                  clear r2 hsF l
                  go_wp2_with fail
                  go_roundw
                  case rel => exact ⟨k + 1, v', _, _, by omega, by go_num, NX⟩
                  case measure => simp [intOf]; omega
end Go.Proofs.Ytgkmihlnmhegfaa
