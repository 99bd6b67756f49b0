/- What is taken and given back at once leaves all as it was: the walk of AllocBack. The condition: the library's variable errors.errorType holds the type error. -/
import Derived.Test.YtlodelcenejfhaaDoorAllocRead
namespace Go.Proofs.YtlodelcenejfhaaDoor
open Go.RowKit Go.Shelf
set_option linter.unusedVariables false

theorem out_put {e : Int} (b : Blk) : ∀ {f : Int} {L : List Blk}, Chain e f (putIn b L) → takeOut b.p (putIn b L) = L
  | f, [], _ => by simp [putIn, takeOut]
  | f, c :: L, h => by
    rw [putIn] at h ⊢
    split at h
    · rename_i hc
      rw [if_pos hc, takeOut, if_neg (by omega), out_put b h.2.2]
    · rename_i hc
      rw [if_neg hc, takeOut, if_pos rfl]
theorem chain_all {e : Int} : ∀ {f : Int} {L : List Blk}, Chain e f L → ∀ c ∈ L, f ≤ c.p
  | f, [], _, c, hc => by simp at hc
  | f, b :: L, ⟨h1, h2, h3⟩, c, hc => by
    rcases List.mem_cons.1 hc with rfl | hc
    · exact h1
    · have := chain_all h3 c hc; omega
theorem put_new {e : Int} (b : Blk) : ∀ {f : Int} {L : List Blk}, Chain e f (putIn b L) → ∀ c ∈ L, c.p ≠ b.p
  | f, [], _, c, hc => by simp at hc
  | f, d :: L, h, c, hc => by
    rw [putIn] at h
    split at h
    · rcases List.mem_cons.1 hc with rfl | hc
      · omega
      · exact put_new b h.2.2 c hc
    · have := chain_all h.2.2 c hc
      have := h.2.1
      omega
theorem put_mem (b : Blk) : ∀ L : List Blk, ∃ j, j < (putIn b L).length ∧ (putIn b L).getD j blk0 = b
  | [] => ⟨0, by simp [putIn], by simp [putIn]⟩
  | c :: L => by
    rw [putIn]
    split
    · obtain ⟨j, h1, h2⟩ := put_mem b L
      exact ⟨j + 1, by simpa using h1, by simpa using h2⟩
    · exact ⟨0, by simp, by simp⟩

/-- The state, and a slice of blocks L0 that was told before. -/
structure Bk (w0 W : World) (a mb mc B : Nat) (v : Value) (L : List Blk) (m : Cells) (ad : Option Addr) (L0 : List Blk) : Prop where
  r : Run w0 W a mb mc B v L m
  x : BlkIn W ad L0
  g : ∀ g, ad = some ⟨g, 0, none⟩ → g < W.heap.size ∧ B ≤ g ∧ v.ownBlock ≠ some g
section
variable {w0 W : World} {a mb mc B : Nat} {v : Value} {L L0 : List Blk} {m : Cells} {ad : Option Addr}
theorem Bk.below {W' : World} (h : Bk w0 W a mb mc B v L m ad L0) (hb : Below W.heap.size W W') : Bk w0 W' a mb mc B v L m ad L0 :=
  ⟨h.r.below hb, h.x.below hb, fun g hg => ⟨Nat.lt_of_lt_of_le (h.g g hg).1 hb.size, (h.g g hg).2⟩⟩
theorem Run.small (h : Run w0 W a mb mc B v L m) : L.length ≤ 100 := by have := h.r.al.ch.le; have := h.len; omega
theorem Run.told2 (h : Run w0 W a mb mc B v L m) : Calls Tryd.prog 31 #[.pointer (some ⟨a, 0, none⟩), .int .i64 1000] W fun e w' => ∃ ad cap, e = .returned (.slice ad L.length cap) ∧ Bk w0 w' a mb mc B v L m ad L ∧ Below W.heap.size W w' := by
  have hs := h.small
  refine (told_any h.r.al.al (by omega) 1000 (by omega)).mono ?_
  rintro e w' ⟨v', rfl, hr, hb⟩
  rw [List.take_of_length_le (by omega)] at hr
  obtain ⟨ad, cap, rfl, hB⟩ := told_slice hr
  refine ⟨ad, cap, rfl, ⟨h.below hb, hB, fun g hg => ?_⟩, hb⟩
  have h1 := hr.lt g (by rw [hg]; rfl)
  have h2 := h.r.al.hB
  exact ⟨h1.2, by omega, fun hx => by have := (h.r.al.own g hx).2; omega⟩
theorem Bk.next {W' : World} {v' : Value} {L' : List Blk} {m' : Cells} (h : Bk w0 W a mb mc B v L m ad L0) (hr : Rm W' a mb mc B v' L' m') (hl : (m'.ws.length : Int) = m.ws.length) (hj : ∀ j, v'.ownBlock = some j → v.ownBlock = some j ∨ W.heap.size ≤ j) (ho : Only (a :: mb :: mc :: v.ownBlock.toList) W W') : Bk w0 W' a mb mc B v' L' m' ad L0 := by
  refine ⟨h.r.next hr hl ho, h.x.only ho (fun g hg => ?_), fun g hg => ?_⟩
  · obtain ⟨h1, h2, h3⟩ := h.g g hg
    have := h.r.r.al.ha
    have := h.r.r.al.hmb
    have := h.r.r.al.hmc
    simp only [List.mem_cons, not_or]
    exact ⟨by omega, by omega, by omega, fun hx => h3 (by simpa using hx)⟩
  · obtain ⟨h1, h2, h3⟩ := h.g g hg
    refine ⟨Nat.lt_of_lt_of_le h1 ho.size, h2, fun hx => ?_⟩
    rcases hj g hx with hy | hy
    · exact h3 hy
    · omega
theorem Bk.used (h : Bk w0 W a mb mc B v L m ad L0) (u : Int) (hu : usedOf L = u) : Calls Tryd.prog 29 #[.pointer (some ⟨a, 0, none⟩)] W fun e w' => e = .returned (.int .i64 u) ∧ Bk w0 w' a mb mc B v L m ad L0 :=
  hu ▸ h.r.r.al.used.mono fun e w' ⟨h1, h2⟩ => ⟨h1, h.below h2⟩
theorem Bk.widest (h : Bk w0 W a mb mc B v L m ad L0) (u : Int) (hu : longest (gaps 100 0 L) = u) : Calls Tryd.prog 30 #[.pointer (some ⟨a, 0, none⟩)] W fun e w' => e = .returned (.int .i64 u) ∧ Bk w0 w' a mb mc B v L m ad L0 := by
  have h0 := h.r.r.al.widest
  rw [h.r.len, show ((100 : Nat) : Int) = 100 from rfl, hu] at h0
  exact h0.mono fun e w' ⟨h1, h2⟩ => ⟨h1, h.below h2⟩
theorem Bk.there (h : Bk w0 W a mb mc B v L m ad L0) (u : Int) (hu : usedOf L = u) : Calls Tryd.prog 25 #[.pointer (some ⟨mb, 0, none⟩)] W fun e w' => e = .returned (.int .i64 u) ∧ W = w' :=
  hu ▸ memThere h.r.r.al.me
theorem Bk.told (h : Bk w0 W a mb mc B v L m ad L0) : Calls Tryd.prog 31 #[.pointer (some ⟨a, 0, none⟩), .int .i64 1000] W fun e w' => ∃ ad2 cap, e = .returned (.slice ad2 L.length cap) ∧ Bk w0 w' a mb mc B v L m ad L0 ∧ BlkIn w' ad2 L :=
  h.r.told2.mono fun e w' ⟨ad2, cap, h1, h2, h3⟩ => ⟨ad2, cap, h1, h.below h3, h2.x⟩
end

set_option maxHeartbeats 8000000 in
set_option maxRecDepth 100000 in
theorem allocBack_walk (n : Int) (hn : (Lit.int .i64 n).wf = true) (w : World) (A0 : Option Addr) (cap0 : Nat) (z0 : List Int) (l0 : z0.length ≤ maxLen) (s0 : IntsIn w .i64 A0 z0) (f0 : ∀ z ∈ z0, (Lit.int .i64 z).wf = true) (hE : ErrType w) :
    Calls Tryd.prog 7 #[.slice A0 z0.length cap0, .int .i64 n] w fun e w' => e = .returned (.bool true) ∧ Below w.heap.size w w' := by
  have hel := cell_lt hE
  have hnw := i64_wf hn
  have W9 := Lib.hid (fun z => within_any z 9 (by omega) (by omega))
  have RM := Lib.hid (room_law w)
  have S0 := Lib.hid s0
  obtain ⟨n0, hn0⟩ : ∃ n0, n0 = z0.length := ⟨_, rfl⟩
  rw [← hn0] at l0 ⊢
  unfold maxLen at l0
  have HN0 := Lib.hid hn0
  clear hn s0 f0 hn0
  go_enter Tryd.func7, Tryd.ntmps7
  go_wp2_with fail
  go_at_call 32
  refine RM.out.mono ?_
  rintro e w1 hp
  obtain ⟨a, mb, mc, B, m, rfl, hR⟩ := run_room hp
  have R1 := Lib.hid (show Runs w w1 a mb mc B from ⟨_, _, _, hR⟩)
  clear hR hp RM
  go_wp2_with fail
  go_loopw [7] (fun vi wr => ∃ k : Nat, k ≤ n0 ∧ k ≤ 30 ∧ vi = .int .i64 k ∧ Hid (Runs w wr a mb mc B)) (fun vi _ => 30 - (intOf vi).toNat)
  case atStart => exact ⟨0, by omega, by omega, rfl, R1⟩
  case round =>
    obtain ⟨k, hk, hk40, rfl, hst⟩ := hrel
    by_cases hlt : k < n0 ∧ k < 30
    · obtain ⟨hlt, h40⟩ := hlt
      obtain ⟨ad, rfl, c0⟩ := S0.out.later hst.out.choose_spec.choose_spec.choose_spec.b k (by rw [← HN0.out]; exact hlt)
      obtain ⟨y, hy⟩ : ∃ y, y = z0.getD k 0 := ⟨_, rfl⟩
      rw [← hy] at c0
      have y1 := Int.emod_nonneg y (show (9 : Int) ≠ 0 by omega)
      have y2 := Int.emod_lt_of_pos y (show (0 : Int) < 9 by omega)
      have W2 := Lib.hid (W9.out y)
      obtain ⟨q, hq⟩ : ∃ q, q = y % 9 := ⟨_, rfl⟩
      rw [← hq] at y1 y2 W2
      have GT := Lib.hid (hst.out.get (1 + q) 32)
      clear hy hq
      go_wp2_with (first | (go_at_call 10; refine (W2.out _).mono ?_; rintro e w' ⟨rfl, rfl⟩))
      go_at_call 22
      refine GT.out.mono ?_
      rintro e w2 ⟨⟨rr, rfl⟩, hst2⟩
      have H2 := Lib.hid hst2
      clear hst2
      go_wp2_with fail
      go_roundw
      case rel => exact ⟨k + 1, by omega, by omega, by go_num, H2⟩
      case measure => simp [intOf]; omega
    · obtain ⟨v, L, m, hR⟩ := hst.out
      have T1 := Lib.hid hR.told2
      have hsm := hR.small
      have hlen := Lib.hid hR.len
      obtain ⟨U, hU⟩ : ∃ U, usedOf L = U := ⟨_, rfl⟩
      obtain ⟨D, hD⟩ : ∃ D, longest (gaps 100 0 L) = D := ⟨_, rfl⟩
      have HU := Lib.hid hU
      have HD := Lib.hid hD
      have hcase : (∃ p, okArg n 64 ∧ firstGap n (gaps 100 0 L) = some p) ∨ (¬ okArg n 64 ∨ (okArg n 64 ∧ firstGap n (gaps 100 0 L) = none)) := by
        by_cases hok : okArg n 64
        · cases hg : firstGap n (gaps 100 0 L) with
          | some p => exact .inl ⟨p, hok, rfl⟩
          | none => exact .inr (.inr ⟨hok, rfl⟩)
        · exact .inr (.inl hok)
      obtain ⟨N, hN⟩ : ∃ N, N = L.length := ⟨_, rfl⟩
      have HN := Lib.hid hN
      rw [← hN] at hsm
      clear hU hD hR hN
      have hex : ¬ k < n0 ∨ (k < n0 ∧ ¬ k < 30) := by omega
      rcases hex with hx | ⟨hx, hx'⟩
      all_goals
        go_wp2_with fail
        go_at_call 31
        refine T1.out.mono ?_
        rintro e w2 ⟨ad, cap, rfl, t2, _⟩
        rw [← HN.out]
        go_wp2_with (first | (go_at_call 29; refine (t2.used _ HU.out).mono ?_; rintro e w3 ⟨rfl, t3⟩) | (go_at_call 30; refine (t3.widest _ HD.out).mono ?_; rintro e w4 ⟨rfl, t4⟩) | (go_at_call 25; refine (t4.there _ HU.out).mono ?_; rintro e w5 ⟨rfl, rfl⟩))
        go_at_call 22
        rcases hcase with ⟨p, hok, hg⟩ | hbad
        · have hg' : firstGap n (gaps m.ws.length 0 L) = some p := by rw [t4.r.len]; exact hg
          have hch := (t4.r.r.al.ch.put hok.1 64 hg').1
          have OP := Lib.hid (out_put ⟨p, n, 64⟩ hch)
          have PN := Lib.hid (put_new ⟨p, n, 64⟩ hch)
          have GB : Calls Tryd.prog 22 #[.pointer (some ⟨a, 0, none⟩), .int .i64 n, .int .i64 64] w4 fun en w' => en = .returned (.tuple #[.int .i64 p, .nilIface]) ∧ ∃ v' m', Bk w w' a mb mc B v' (putIn ⟨p, n, 64⟩ L) m' ad L :=
            (rm_got t4.r.r n 64 p hok hg').mono fun en w' ⟨v', m', h1, h2, h3, h4, h5⟩ => ⟨h1, v', m', t4.next h2 h3 h4 h5⟩
          refine GB.mono ?_
          rintro e w6 ⟨rfl, v', m', t6⟩
          clear GB hg hg' hch hok
          obtain ⟨jj, hj1, hj2⟩ := put_mem ⟨p, n, 64⟩ L
          have PB : Calls Tryd.prog 16 #[.pointer (some ⟨a, 0, none⟩), .int .i64 p] w6 fun en w' => en = .returned .nilIface ∧ ∃ v' m', Bk w w' a mb mc B v' L m' ad L :=
            (rm_gave t6.r.r p jj hj1 (by rw [hj2])).mono fun en w' ⟨v', m', h1, h2, h3, h4, h5⟩ => ⟨h1, v', m', by have := OP.out; rw [this] at h2; exact t6.next h2 h3 h4 h5⟩
          have HPB := Lib.hid PB
          clear hj1 hj2 PB
          go_wp2_with fail
          go_at_call 16
          refine HPB.out.mono ?_
          rintro e w7 ⟨rfl, v7, m7, t7⟩
          go_wp2_with (first | (go_at_call 29; refine (t7.used _ HU.out).mono ?_; rintro e w8 ⟨rfl, t8⟩) | (go_at_call 30; refine (t8.widest _ HD.out).mono ?_; rintro e w9 ⟨rfl, t9⟩) | (go_at_call 25; refine (t9.there _ HU.out).mono ?_; rintro e w10 ⟨rfl, rfl⟩))
          go_at_call 31
          refine t9.told.mono ?_
          rintro e w10 ⟨ad2, cap2, rfl, t10, x10⟩
          rw [← HN.out]
          have TT := Lib.hid (And.intro t10 x10)
          clear t2 t3 t4 t6 t7 t8 t9 t10 x10
          have nq1 := neq_same
          have nq2 := guard_blk
          go_wp2_with fail
          go_loopw [15] (fun vi wr => ∃ i : Nat, i ≤ N ∧ vi = .int .i64 i ∧ Hid (Bk w wr a mb mc B v7 L m7 ad L ∧ BlkIn wr ad2 L)) (fun vi _ => N - (intOf vi).toNat)
          case atStart => exact ⟨0, by omega, rfl, TT⟩
          case round =>
            obtain ⟨i, hi, rfl, htl⟩ := hrel
            by_cases hil : i < N
            · obtain ⟨g, rfl, hg, c0, c1, c2⟩ := htl.out.1.x i (by rw [← HN.out]; exact hil)
              obtain ⟨g2, rfl, hg2, d0, d1, d2⟩ := htl.out.2 i (by rw [← HN.out]; exact hil)
              obtain ⟨b, hb⟩ : ∃ b, b = L.getD i blk0 := ⟨_, rfl⟩
              rw [← hb] at c0 c1 c2 d0 d1 d2
              clear hb
              go_wp2_with fail
              go_quiet (fail)
              have HT := Lib.hid (And.intro (htl.out.1.below (below_drewN _ nq)) (htl.out.2.below (below_drewN _ nq)))
              go_wp2_with fail
              go_roundw
              case rel => exact ⟨i + 1, by omega, by go_num, HT⟩
              case measure => simp [intOf]; omega
            · obtain rfl : i = N := by omega
              have PX := Lib.hid (put_none htl.out.1.r.r.al p (fun j hj hjp => by
                have hm : L.getD j blk0 ∈ L := by simp [hj]
                exact PN.out _ hm hjp))
              have HB := Lib.hid htl.out.1
              go_wp2_with fail
              go_at_call 16
              refine PX.out.mono ?_
              rintro e w12 ⟨x, rfl, hx, _, hbx⟩
              have tl2 : Tail w w12 a mb mc B v7 L m7 x p 4 := ⟨HB.out.r.b.trans (hbx.mono HB.out.r.b.size), HB.out.r.r.below hbx, hx, errType_kept hE (HB.out.r.b.trans (hbx.mono HB.out.r.b.size)) hel⟩
              clear hx hbx
              go_wp2_with (first | (go_at_call 28; refine (tl2.no p 4).mono ?_; rintro e w13 ⟨z1', rfl, tl3, f3⟩) | (go_at_call 15; refine (tl3.same z1' f3 (by omega) (by omega)).mono ?_; rintro e w14 ⟨rfl, tl4⟩) | (go_at_call 27; refine tl4.awake.mono ?_; rintro e w15 ⟨rfl, tl5⟩))
              go_ret
              exact ⟨rfl, tl5.b⟩
        · have GB : Calls Tryd.prog 22 #[.pointer (some ⟨a, 0, none⟩), .int .i64 n, .int .i64 64] w4 fun en w' => (∃ x, en = .returned (.tuple #[.int .i64 0, .iface 89 (.pointer (some ⟨x, 0, none⟩))])) ∧ Bk w w' a mb mc B v L m ad L := by
            rcases hbad with hok | ⟨hok, hg⟩
            · exact (get_arg _ n 64 (by unfold okArg at hok; omega) w4).mono fun en w' ⟨x, h1, _, _, h2⟩ => ⟨⟨x, h1⟩, t4.below h2⟩
            · exact (get_room t4.r.r.al n 64 hok.1 hok.2.1 hok.2.2 (by rw [t4.r.len]; exact hg)).mono fun en w' ⟨x, h1, _, _, h2⟩ => ⟨⟨x, h1⟩, t4.below h2⟩
          refine GB.mono ?_
          rintro e w6 ⟨⟨x, rfl⟩, t6⟩
          clear GB hbad
          go_wp2_with (first | (go_at_call 29; refine (t6.used _ HU.out).mono ?_; rintro e w7 ⟨rfl, t7⟩) | (go_at_call 25; refine (t7.there _ HU.out).mono ?_; rintro e w8 ⟨rfl, rfl⟩) | (go_at_call 27; refine (awake_any w7 (errType_kept hE t7.r.b hel)).mono ?_; rintro e w9 ⟨rfl, b9⟩))
          go_ret
          exact ⟨rfl, t7.r.b.trans (b9.mono t7.r.b.size)⟩
end Go.Proofs.YtlodelcenejfhaaDoor
