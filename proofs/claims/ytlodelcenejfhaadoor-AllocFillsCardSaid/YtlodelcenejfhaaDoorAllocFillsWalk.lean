/- Blocks of one size fill a room one behind the other, as many as it has: the walk of AllocFills. The condition: the library's variable errors.errorType holds the type error. -/
import Derived.Test.YtlodelcenejfhaaDoorAllocTail
import Derived.Deep.RegionWith
namespace Go.Proofs.YtlodelcenejfhaaDoor
open Go.RowKit Go.Shelf
set_option linter.unusedVariables false

/-- k blocks of s cells, one behind the other, from f on. -/
def fl (s : Int) : Nat → Int → List Blk
  | 0, _ => []
  | k + 1, f => ⟨f, s, 64⟩ :: fl s k (f + s)
theorem fl_put (s : Int) (hs : 1 ≤ s) : ∀ (k : Nat) (f : Int), putIn ⟨f + k * s, s, 64⟩ (fl s k f) = fl s (k + 1) f
  | 0, f => by simp [fl, putIn]
  | k + 1, f => by
    have h0 : 0 ≤ (k : Int) * s := Int.mul_nonneg (by omega) (by omega)
    have e : f + ((k + 1 : Nat) : Int) * s = (f + s) + (k : Int) * s := by rw [Int.natCast_add, Int.add_mul]; simp; omega
    rw [fl, putIn, if_pos (by simp only [e]; omega), e, fl_put s hs k (f + s)]
    rfl
theorem fl_gap (e n s : Int) (hn : 1 ≤ n) : ∀ (k : Nat) (f : Int), firstGap n (gaps e f (fl s k f)) = if n ≤ e - (f + k * s) then some (f + k * s) else none
  | 0, f => by simp [fl, gaps, firstGap_cons, firstGap_nil]
  | k + 1, f => by
    have e1 : f + ((k + 1 : Nat) : Int) * s = (f + s) + (k : Int) * s := by rw [Int.natCast_add, Int.add_mul]; simp; omega
    rw [fl, gaps, firstGap_cons, if_neg (by simp; omega), fl_gap e n s hn k (f + s), e1]
theorem fl_long (e s : Int) : ∀ (k : Nat) (f m : Int), 0 ≤ m → List.foldl (fun m g => max m g.2) m (gaps e f (fl s k f)) = max m (e - (f + k * s))
  | 0, f, m, _ => by simp [fl, gaps]
  | k + 1, f, m, hm => by
    have e1 : f + ((k + 1 : Nat) : Int) * s = (f + s) + (k : Int) * s := by rw [Int.natCast_add, Int.add_mul]; simp; omega
    rw [fl, gaps, List.foldl_cons, fl_long e s k (f + s) _ (by omega), e1]
    simp only []
    rw [show max m (f - f) = m by omega]
theorem fl_used (s : Int) : ∀ (k : Nat) (f : Int), usedOf (fl s k f) = k * s
  | 0, f => by simp [fl, usedOf]
  | k + 1, f => by rw [fl, usedOf, fl_used s k (f + s), Int.natCast_add, Int.add_mul]; simp; omega

set_option maxHeartbeats 4000000 in
set_option maxRecDepth 100000 in
theorem allocFills_walk (z : Int) (hz : (Lit.int .i64 z).wf = true) (w : World) (hE : ErrType w) :
    Calls Tryd.prog 9 #[.int .i64 z] w fun e w' => e = .returned (.bool true) ∧ Below w.heap.size w w' := by
  have hel := cell_lt hE
  have b1 := Int.emod_nonneg z (show (50 : Int) ≠ 0 by omega)
  have b2 := Int.emod_lt_of_pos z (show (0 : Int) < 50 by omega)
  have WI := Lib.hid (within_any z 50 (by omega) (by omega))
  obtain ⟨r, hr⟩ : ∃ r, r = z % 50 := ⟨_, rfl⟩
  rw [← hr] at b1 b2 WI
  clear hr hz
  have RM := Lib.hid (room_law w)
  go_enter Tryd.func9, Tryd.ntmps9
  go_wp2_with (go_at_call 10; refine (WI.out _).mono ?_; rintro e w' ⟨rfl, rfl⟩)
  go_at_call 32
  refine RM.out.mono ?_
  rintro e w1 ⟨a, mb, mc, B, m, rfl, hR, hlen, hb, ha, hmb, hmc, hB⟩
  obtain ⟨s, hs⟩ : ∃ s, s = 1 + r := ⟨_, rfl⟩
  rw [← hs]
  have s1 : 1 ≤ s := by omega
  have s50 : s ≤ 50 := by omega
  have sne : ¬ (s = 0) := by omega
  have q100 : 100 / s ≤ 100 := Int.ediv_le_self _ (by omega)
  have q0 : 0 ≤ 100 / s := Int.ediv_nonneg (by omega) (by omega)
  clear hs b1 b2 WI RM
  have H0 := Lib.hid (show ∃ v m, Rm w1 a mb mc B v (fl s 0 0) m ∧ m.ws.length = 100 from ⟨_, m, hR, hlen⟩)
  have HB := Lib.hid hb
  clear hR hlen hb
  go_wp2_with fail
  go_loopw [5] (fun vi wr => ∃ k : Nat, (k : Int) ≤ 100 / s ∧ vi = .int .i64 k ∧ Hid (∃ v m, Rm wr a mb mc B v (fl s k 0) m ∧ m.ws.length = 100) ∧ Hid (Below w.heap.size w wr)) (fun vi _ => (100 / s - intOf vi).toNat)
  case atStart => exact ⟨0, by simp; exact Int.ediv_nonneg (by omega) (by omega), rfl, H0, HB⟩
  case round =>
    obtain ⟨k, hk, rfl, hst, hbl⟩ := hrel
    have p0 : 0 ≤ (k : Int) * s := Int.mul_nonneg (by omega) (by omega)
    by_cases hlt : (k : Int) < 100 / s
    · obtain ⟨v, m, hR, hl⟩ := hst.out
      have hks : ((k : Int) + 1) * s ≤ 100 := (Int.le_ediv_iff_mul_le (by omega)).1 (by omega)
      rw [Int.add_mul, Int.one_mul] at hks
      have p1 : (k : Int) * s ≤ 100 := by omega
      have hg : firstGap s (gaps m.ws.length 0 (fl s k 0)) = some ((k : Int) * s) := by rw [hl, fl_gap _ s s s1 k 0, if_pos (by simp; omega), Int.zero_add]
      have GT := Lib.hid (rm_got hR s 64 ((k : Int) * s) ⟨s1, by omega, Or.inl rfl⟩ hg)
      have HR := Lib.hid hR
      have HL := Lib.hid hl
      clear hR hl hg hks hst
      go_wp2_with fail
      go_at_call 22
      refine GT.out.mono ?_
      rintro e w2 ⟨v', m', rfl, hR', hl', hj, ho⟩
      have H2 := Lib.hid (show ∃ v m, Rm w2 a mb mc B v (fl s (k + 1) 0) m ∧ m.ws.length = 100 from ⟨v', m', by have := fl_put s s1 k 0; rw [Int.zero_add] at this; rw [← this]; exact hR', by have := HL.out; omega⟩)
      have B2 := Lib.hid (hbl.out.trans (only_below ho HR.out.al.own ha hmb hmc hB hbl.out.size))
      clear hR' hl' hj ho
      go_wp2_with fail
      go_roundw
      case rel => exact ⟨k + 1, by omega, by go_num, H2, B2⟩
      case measure => simp [intOf]; omega
    · obtain ⟨v, m, hR, hl⟩ := hst.out
      have hkq : (k : Int) = 100 / s := by omega
      have hmd := Int.emod_add_mul_ediv 100 s
      have hm0 := Int.emod_nonneg 100 sne
      have hm1 := Int.emod_lt_of_pos 100 (show 0 < s by omega)
      have hq : (k : Int) * s = 100 - 100 % s := by rw [hkq, Int.mul_comm]; omega
      have r0 : 0 ≤ 100 / s * s := Int.mul_nonneg q0 (by omega)
      have r1 : 100 / s * s ≤ 100 := by rw [Int.mul_comm]; omega
      have hg : firstGap s (gaps m.ws.length 0 (fl s k 0)) = none := by rw [hl, fl_gap _ s s s1 k 0, if_neg (by simp; omega)]
      have GB := Lib.hid (get_room hR.al s 64 s1 (by omega) (Or.inl rfl) hg)
      have hu : usedOf (fl s k 0) = 100 / s * s := by rw [fl_used, hkq]
      have hw : longest (gaps m.ws.length 0 (fl s k 0)) = 100 % s := by
        show List.foldl _ 0 _ = _
        rw [hl, fl_long _ s k 0 0 (by omega)]; simp; omega
      obtain ⟨U, hU⟩ : ∃ U, 100 / s * s = U := ⟨_, rfl⟩
      obtain ⟨R, hRr⟩ : ∃ R, 100 % s = R := ⟨_, rfl⟩
      have w1 : IntKind.i64.wrap (100 / s) = 100 / s := by rw [IntKind.wrap_i64]; omega
      have w2 : IntKind.i64.wrap (100 / s * s) = 100 / s * s := by rw [IntKind.wrap_i64]; omega
      have w3 : IntKind.i64.wrap (100 % s) = 100 % s := by rw [IntKind.wrap_i64]; omega
      rw [hU] at r0 r1 w2 hu
      rw [hRr] at hm0 hm1 w3 hw
      have d1 : Int.tdiv 100 s = 100 / s := Int.tdiv_eq_ediv_of_nonneg (by omega)
      have d2 : Int.tmod 100 s = R := by rw [Int.tmod_eq_emod_of_nonneg (by omega), hRr]
      have HU0 := Lib.hid hU
      have HR0 := Lib.hid hRr
      have HE := Lib.hid (And.intro w1 (And.intro w2 (And.intro w3 (And.intro d1 d2))))
      have HR := Lib.hid hR
      have HU := Lib.hid hu
      have HW := Lib.hid hw
      clear hR hl hg hu hw hst hkq hmd hq hU hRr w1 w2 w3 d1 d2
      go_wp2_with fail
      go_at_call 22
      refine GB.out.mono ?_
      rintro e w2' ⟨x, rfl, hx, hxs, hb2⟩
      have TL := Lib.hid (show Tail w w2' a mb mc B v (fl s k 0) m x 0 3 from ⟨hbl.out.trans (hb2.mono hbl.out.size), HR.out.below hb2, hx, errType_kept hE (hbl.out.trans (hb2.mono hbl.out.size)) hel⟩)
      clear hx hb2
      go_wp2_with fail
      obtain ⟨w1, w2, w3, d1, d2⟩ := HE.out
      have hU := HU0.out
      have hRr := HR0.out
      go_region_with (first | (go_at_call 28; refine (TL.out.drew.no 0 3).mono ?_; rintro e w3 ⟨z1, rfl, t3, f3⟩) | (go_at_call 15; refine (t3.same z1 f3 (by omega) (by omega)).mono ?_; rintro e w4 ⟨rfl, t4⟩) | (go_at_call 29; refine (t4.used _ HU.out).mono ?_; rintro e w5 ⟨rfl, t5⟩) | (go_at_call 30; refine (t5.widest _ HW.out).mono ?_; rintro e w6 ⟨rfl, t6⟩) | (go_at_call 27; refine t6.awake.mono ?_; rintro e w7 ⟨rfl, t7⟩))
      all_goals go_wp2
      all_goals go_ret
      all_goals exact ⟨rfl, t7.b⟩
end Go.Proofs.YtlodelcenejfhaaDoor
