/- Blocks never overlap, lie in the room, and are mapped with their width; nothing else is: the walk of AllocApart. The condition: the library's variable errors.errorType holds the type error. -/
import Derived.Test.YtlodelcenejfhaaDoorAllocRead
import Derived.Deep.RegionWith
namespace Go.Proofs.YtlodelcenejfhaaDoor
open Go.RowKit Go.Shelf
set_option linter.unusedVariables false

/-- Where the cells of the blocks ahead of block i end; f: where the room begins. -/
def endF : Int → List Blk → Nat → Int
  | f, _, 0 => f
  | f, [], _ + 1 => f
  | _, c :: L, i + 1 => endF (c.p + c.n) L i
theorem endF_ge {e : Int} : ∀ {f : Int} {L : List Blk}, Chain e f L → ∀ i, f ≤ endF f L i
  | f, _, _, 0 => by simp [endF]
  | f, [], _, i + 1 => by simp [endF]
  | f, c :: L, ⟨h1, h2, h3⟩, i + 1 => by have := endF_ge h3 i; rw [endF]; omega
theorem endF_le {e : Int} : ∀ {f : Int} {L : List Blk}, Chain e f L → ∀ i, i < L.length → endF f L i ≤ (L.getD i blk0).p
  | f, [], _, i, h => by simp at h
  | f, c :: L, ⟨h1, h2, h3⟩, 0, _ => by simpa [endF] using h1
  | f, c :: L, ⟨h1, h2, h3⟩, i + 1, h => by
    have := endF_le h3 i (by simpa using h)
    rw [endF]; simpa using this
theorem endF_succ : ∀ (f : Int) (L : List Blk) (i : Nat), i < L.length → endF f L (i + 1) = (L.getD i blk0).p + (L.getD i blk0).n
  | f, [], i, h => by simp at h
  | f, c :: L, 0, _ => by rw [endF]; cases L <;> simp [endF]
  | f, c :: L, i + 1, h => by
    rw [endF, endF_succ (c.p + c.n) L i (by simpa using h)]; simp
theorem widthOf_gap {e : Int} : ∀ {f : Int} {L : List Blk}, Chain e f L → ∀ i, i < L.length → ∀ x, endF f L i ≤ x → x < (L.getD i blk0).p → widthOf L x = 0
  | f, [], _, i, h, _, _, _ => by simp at h
  | f, c :: L, ⟨h1, h2, h3⟩, 0, _, x, _, hx => by
    simp only [List.getD_cons_zero] at hx
    rw [widthOf, if_neg (by omega)]
    exact widthOf_lt h3 x (by omega)
  | f, c :: L, ⟨h1, h2, h3⟩, i + 1, h, x, hlo, hx => by
    have hi : i < L.length := by simpa using h
    rw [endF] at hlo
    have := endF_ge h3 i
    rw [widthOf, if_neg (by omega)]
    exact widthOf_gap h3 i hi x hlo (by simpa using hx)
theorem used_take {e : Int} : ∀ {f : Int} {L : List Blk}, Chain e f L → ∀ i, 0 ≤ usedOf (L.take i) ∧ f + usedOf (L.take i) ≤ e
  | f, L, h, 0 => by have := h.le; simp [usedOf]; omega
  | f, [], h, i + 1 => by have := h.le; simp [usedOf] at this ⊢; omega
  | f, c :: L, ⟨h1, h2, h3⟩, i + 1 => by have := used_take h3 i; simp only [List.take_succ_cons, usedOf]; omega

/-- What a round finds of its block. -/
theorem apart_facts {L : List Blk} (h : Chain 100 0 L) (i : Nat) (hi : i < L.length) : 0 ≤ endF 0 L i ∧ endF 0 L i ≤ (L.getD i blk0).p ∧ 1 ≤ (L.getD i blk0).n ∧ (L.getD i blk0).p + (L.getD i blk0).n ≤ 100 ∧
    endF 0 L (i + 1) = (L.getD i blk0).p + (L.getD i blk0).n ∧ usedOf (L.take (i + 1)) = usedOf (L.take i) + (L.getD i blk0).n ∧ 0 ≤ usedOf (L.take i) ∧ usedOf (L.take i) + (L.getD i blk0).n ≤ 100 ∧
    (∀ x, endF 0 L i ≤ x → x < (L.getD i blk0).p → widthOf L x = 0) ∧ (∀ x, (L.getD i blk0).p ≤ x → x < (L.getD i blk0).p + (L.getD i blk0).n → widthOf L x = (L.getD i blk0).k) := by
  have h1 := h.up i hi
  have h2 : usedOf (L.take (i + 1)) = usedOf (L.take i) + (L.getD i blk0).n := by
    rw [take_succ_blk L i hi, usedOf_append]; simp [usedOf]
  have h3 := used_take h i
  have h4 := used_take h (i + 1)
  exact ⟨endF_ge h i, endF_le h i hi, h1.2.1, h1.2.2.1, endF_succ 0 L i hi, h2, h3.1, by omega, widthOf_gap h i hi, widthOf_at h i hi⟩
theorem wrap_u64 (x : Nat) (h : (x : Int) ≤ 100) : IntKind.u64.wrap (x : Int) = (x : Int) := by rw [IntKind.wrap_u64]; omega

theorem Runs.later {w0 W W' : World} {a mb mc B : Nat} (h : Runs w0 W a mb mc B) (hb : Below W.heap.size W W') : Runs w0 W' a mb mc B := by
  obtain ⟨v, L, m, h⟩ := h
  exact ⟨v, L, m, h.below hb⟩

/-- The state, and the slice of its blocks. -/
structure Apt (w0 W : World) (a mb mc B : Nat) (v : Value) (L : List Blk) (m : Cells) (ad : Option Addr) : Prop where
  r : Run w0 W a mb mc B v L m
  x : BlkIn W ad L
section
variable {w0 W : World} {a mb mc B : Nat} {v : Value} {L : List Blk} {m : Cells} {ad : Option Addr}
theorem Apt.below {W' : World} (h : Apt w0 W a mb mc B v L m ad) (hb : Below W.heap.size W W') : Apt w0 W' a mb mc B v L m ad := ⟨h.r.below hb, h.x.below hb⟩
theorem Run.told3 (h : Run w0 W a mb mc B v L m) : Calls Tryd.prog 31 #[.pointer (some ⟨a, 0, none⟩), .int .i64 1000] W fun e w' => ∃ ad cap, e = .returned (.slice ad L.length cap) ∧ Apt w0 w' a mb mc B v L m ad := by
  have hs : L.length ≤ 100 := by have := h.r.al.ch.le; have := h.len; omega
  refine (told_any h.r.al.al (by omega) 1000 (by omega)).mono ?_
  rintro e w' ⟨v', rfl, hr, hb⟩
  rw [List.take_of_length_le (by omega)] at hr
  obtain ⟨ad, cap, rfl, hB⟩ := told_slice hr
  exact ⟨ad, cap, rfl, h.below hb, hB⟩
theorem Apt.width (h : Apt w0 W a mb mc B v L m ad) (x : Nat) (k : Int) (hk : widthOf L x = k) : Calls Tryd.prog 33 #[.pointer (some ⟨mb, 0, none⟩), .int .u64 x] W fun e w' => e = .returned (.int .i64 k) ∧ W = w' :=
  (memWidth h.r.r.al.me h.r.r.al.g.small x).mono fun e w' ⟨h1, h2⟩ => ⟨by rw [h1, h.r.r.hw x, hk], h2⟩
/-- The width of a cell, however often was drawn: what the block that has it says. -/
theorem Apt.widthN (h : Apt w0 W a mb mc B v L m ad) (x : Nat) (k : Int) (hk : widthOf L x = k) (n : Nat) : Calls Tryd.prog 33 #[.pointer (some ⟨mb, 0, none⟩), .int .u64 x] (W.drewN n) fun e w' => e = .returned (.int .i64 k) ∧ w' = W.drewN n :=
  (memWidth (h.r.r.al.me.drewN n) h.r.r.al.g.small x).mono fun e w' ⟨h1, h2⟩ => ⟨by rw [h1, h.r.r.hw x, hk], h2.symm⟩
end

set_option maxHeartbeats 8000000 in
set_option maxRecDepth 100000 in
theorem allocApart_walk (w : World) (A0 : Option Addr) (cap0 : Nat) (z0 : List Int) (l0 : z0.length ≤ maxLen) (s0 : IntsIn w .i64 A0 z0) (f0 : ∀ z ∈ z0, (Lit.int .i64 z).wf = true)
    (A1 : Option Addr) (cap1 : Nat) (z1 : List Int) (l1 : z1.length ≤ maxLen) (s1 : IntsIn w .i64 A1 z1) (f1 : ∀ z ∈ z1, (Lit.int .i64 z).wf = true) (hE : ErrType w) :
    Calls Tryd.prog 5 #[.slice A0 z0.length cap0, .slice A1 z1.length cap1] w fun e w' => e = .returned (.bool true) ∧ Below w.heap.size w w' := by
  have hel := cell_lt hE
  have WH := Lib.hid (fun z => within_any z 100 (by omega) (by omega))
  have RM := Lib.hid (room_law w)
  have S0 := Lib.hid s0
  have S1 := Lib.hid s1
  obtain ⟨n0, hn0⟩ : ∃ n0, n0 = z0.length := ⟨_, rfl⟩
  obtain ⟨n1, hn1⟩ : ∃ n1, n1 = z1.length := ⟨_, rfl⟩
  rw [← hn0] at l0 ⊢
  rw [← hn1] at l1 ⊢
  unfold maxLen at l0 l1
  have HN0 := Lib.hid hn0
  have HN1 := Lib.hid hn1
  clear s0 f0 s1 f1 hn0 hn1
  go_enter Tryd.func5, Tryd.ntmps5
  go_wp2_with fail
  go_at_call 32
  refine RM.out.mono ?_
  rintro e w1 hp
  obtain ⟨a, mb, mc, B, m, rfl, hR⟩ := run_room hp
  have R1 := Lib.hid (show Runs w w1 a mb mc B from ⟨_, _, _, hR⟩)
  clear hR hp RM
  go_wp2_with fail
  go_loopw [7] (fun vi wr => ∃ k : Nat, k ≤ n0 ∧ k ≤ 40 ∧ vi = .int .i64 k ∧ Hid (Runs w wr a mb mc B)) (fun vi _ => 40 - (intOf vi).toNat)
  case atStart => exact ⟨0, by omega, by omega, rfl, R1⟩
  case round =>
    obtain ⟨k, hk, hk40, rfl, hst⟩ := hrel
    by_cases hlt : k < n0 ∧ k < 40
    · obtain ⟨hlt, h40⟩ := hlt
      obtain ⟨ad, rfl, c0⟩ := S0.out.later hst.out.choose_spec.choose_spec.choose_spec.b k (by rw [← HN0.out]; exact hlt)
      obtain ⟨y, hy⟩ : ∃ y, y = z0.getD k 0 := ⟨_, rfl⟩
      rw [← hy] at c0
      obtain ⟨q, hq⟩ : ∃ q, Int.tmod y 40 = q := ⟨_, rfl⟩
      obtain ⟨p, hp⟩ : ∃ p : Nat, p = k % 2 := ⟨_, rfl⟩
      have hp2 : Int.tmod (k : Int) 2 = (p : Int) := by rw [Int.tmod_eq_emod_of_nonneg (by omega)]; omega
      have hp3 : p < 2 := by omega
      have GT := Lib.hid (fun kk => (hst.out.later (W' := (wr.alloc (.cells #[.int .i64 64, .int .i64 32] 3)).drew) ((Below.refl _ _).alloc (Nat.le_refl _) _).drew).get q kk)
      have c0' : (wr.alloc (.cells #[.int .i64 64, .int .i64 32] 3)).cell? (ad.add k) = some (.int .i64 y) := by
        have hb : Below wr.heap.size wr (wr.alloc (.cells #[.int .i64 64, .int .i64 32] 3)) := (Below.refl _ _).alloc (Nat.le_refl _) _
        rw [hb.cell (World.block_lt_of_cell? _ _ c0)]; exact c0
      clear hy hp
      rcases (show p = 0 ∨ p = 1 by omega) with rfl | rfl
      all_goals
        go_wp2_with fail
        go_region_with (go_at_call 22; refine (GT.out _).mono ?_; rintro e w2 ⟨⟨rr, rfl⟩, hst2⟩)
        all_goals
          have H2 := Lib.hid hst2
          obtain ⟨_, _, _, hRun2⟩ := hst2
          have hb2 := Lib.hid hRun2.b
          clear hRun2
          by_cases hlt1 : k < n1
          · obtain ⟨ad1, rfl, c1⟩ := S1.out.later hb2.out k (by rw [← HN1.out]; exact hlt1)
            obtain ⟨y1, hy1⟩ : ∃ y1, y1 = z1.getD k 0 := ⟨_, rfl⟩
            rw [← hy1] at c1
            obtain ⟨q1, hq1⟩ : ∃ q1, Int.tmod y1 3 = q1 := ⟨_, rfl⟩
            have W3 := Lib.hid (WH.out y1)
            have PT := Lib.hid (fun x => H2.out.put x)
            clear hy1
            by_cases hm : q1 = 0
            · subst hm
              go_wp2_with (first | (go_at_call 10; refine (W3.out _).mono ?_; rintro e w' ⟨rfl, rfl⟩))
              go_at_call 16
              refine (PT.out _).mono ?_
              rintro e w3 ⟨⟨rr3, rfl⟩, hst3⟩
              have H3 := Lib.hid hst3
              clear hst3
              go_wp2_with fail
              go_roundw
              case rel => exact ⟨k + 1, by omega, by omega, by go_num, H3⟩
              case measure => simp [intOf]; omega
            · go_wp2_with fail
              go_roundw
              case rel => exact ⟨k + 1, by omega, by omega, by go_num, H2⟩
              case measure => simp [intOf]; omega
          · go_wp2_with fail
            go_roundw
            case rel => exact ⟨k + 1, by omega, by omega, by go_num, H2⟩
            case measure => simp [intOf]; omega
    · obtain ⟨v, L, m, hR⟩ := hst.out
      have T1 := Lib.hid hR.told3
      have hch : Chain 100 0 L := by have := hR.r.al.ch; rw [hR.len] at this; exact this
      have FX := Lib.hid (fun i hi => apart_facts hch i hi)
      have hsm : L.length ≤ 100 := by have := hch.le; omega
      obtain ⟨N, hN⟩ : ∃ N, N = L.length := ⟨_, rfl⟩
      rw [← hN] at hsm FX
      have HN := Lib.hid hN
      clear hR hch hN
      have hex : ¬ k < n0 ∨ (k < n0 ∧ ¬ k < 40) := by omega
      rcases hex with hx | ⟨hx, hx'⟩
      all_goals
        go_wp2_with fail
        go_at_call 31
        refine T1.out.mono ?_
        rintro e w2 ⟨ad, cap, rfl, t2⟩
        rw [← HN.out]
        have TT := Lib.hid t2
        clear t2
        go_wp2_with fail
        go_loopw [9, 10, 11] (fun ve vn vi wr => ∃ (i : Nat) (en un : Int), i ≤ N ∧ ve = .int .i64 en ∧ vn = .int .i64 un ∧ vi = .int .i64 i ∧ Hid (endF 0 L i = en ∧ usedOf (L.take i) = un) ∧ Hid (Apt w wr a mb mc B v L m ad)) (fun _ _ vi _ => N - (intOf vi).toNat)
        case atStart => exact ⟨0, 0, 0, by omega, rfl, rfl, rfl, Lib.hid ⟨by simp [endF], by simp [usedOf]⟩, TT⟩
        case round =>
          obtain ⟨i, en, un, hi, rfl, rfl, rfl, hes, ht⟩ := hrel
          by_cases hil : i < N
          · obtain ⟨g, rfl, hg, c0, c1, c2⟩ := ht.out.x i (by rw [← HN.out]; exact hil)
            obtain ⟨x1, x2, x3, x4, x5, x6, x7, x8, x9, x10⟩ := FX.out i hil
            rw [hes.out.1] at x1 x2 x9
            rw [hes.out.2] at x6 x7 x8
            obtain ⟨b, hb⟩ : ∃ b, b = L.getD i blk0 := ⟨_, rfl⟩
            rw [← hb] at c0 c1 c2 x2 x3 x4 x5 x6 x8 x9 x10
            have HB := Lib.hid hb
            have HX := Lib.hid (And.intro x5 x6)
            have WG := Lib.hid x9
            have WB := Lib.hid x10
            have e1 : decide (b.p < en) = false := by simp; omega
            have e2 : decide (b.n < 1) = false := by simp; omega
            have e3 : decide (100 < b.p + b.n) = false := by simp; omega
            have v1 : IntKind.i64.wrap (b.p + b.n) = b.p + b.n := by rw [IntKind.wrap_i64]; omega
            have v2 : IntKind.i64.wrap (un + b.n) = un + b.n := by rw [IntKind.wrap_i64]; omega
            clear x5 x6 x9 x10 hb
            go_wp2_with fail
            go_quiet (fail)
            have HT := Lib.hid (ht.out.below (below_drewN _ nq))
            go_wp2_with fail
            obtain ⟨e0, rfl⟩ : ∃ e0 : Nat, en = e0 := ⟨en.toNat, by omega⟩
            go_loopw [12] (fun vk wr => ∃ x : Nat, e0 ≤ x ∧ (x : Int) ≤ b.p ∧ vk = .int .i64 x ∧ Hid (Apt w wr a mb mc B v L m (some ⟨g, 0, none⟩))) (fun vk _ => (b.p - intOf vk).toNat)
            case atStart => exact ⟨e0, by omega, by omega, rfl, HT⟩
            case round =>
              obtain ⟨x, hx0, hx1, rfl, ht3⟩ := hrel
              obtain ⟨g', hgg, hg3, c03, _, _⟩ := ht3.out.x i (by rw [← HN.out]; exact hil)
              cases hgg
              rw [← HB.out] at c03
              by_cases hxp : (x : Int) < b.p
              · have WD := Lib.hid (ht3.out.width x 0 (WG.out x (by omega) hxp))
                have wx := wrap_u64 x (by omega)
                go_wp2_with (go_at_call 33; refine WD.out.mono ?_; rintro e w' ⟨rfl, rfl⟩)
                go_roundw
                case rel => exact ⟨x + 1, by omega, by omega, by go_num, ht3⟩
                case measure => simp [intOf]; omega
              · go_wp2_with fail
                obtain ⟨p0, hp0⟩ : ∃ p0 : Nat, b.p = p0 := ⟨b.p.toNat, by omega⟩
                go_loopw [13] (fun vk wr => ∃ x : Nat, p0 ≤ x ∧ (x : Int) ≤ b.p + b.n ∧ vk = .int .i64 x ∧ Hid (Apt w wr a mb mc B v L m (some ⟨g, 0, none⟩))) (fun vk _ => (b.p + b.n - intOf vk).toNat)
                case atStart => exact ⟨p0, by omega, by omega, by rw [hp0], ht3⟩
                case round =>
                  obtain ⟨y, hy0, hy1, rfl, ht4⟩ := hrel
                  obtain ⟨g', hgg, hg4, c04, c14, c24⟩ := ht4.out.x i (by rw [← HN.out]; exact hil)
                  cases hgg
                  rw [← HB.out] at c04 c14 c24
                  by_cases hyp : (y : Int) < b.p + b.n
                  · have WD := Lib.hid (ht4.out.widthN y b.k (WB.out y (by omega) hyp))
                    have wy := wrap_u64 y (by omega)
                    go_wp2_with fail
                    go_quiet (fail)
                    have H5 := ht4.out.below (below_drewN _ nq)
                    revert H5
                    generalize wr.drewN nq = w5
                    intro H5
                    obtain ⟨g', hgg, hg5, c05, c15, c25⟩ := H5.x i (by rw [← HN.out]; exact hil)
                    cases hgg
                    rw [← HB.out] at c05 c15 c25
                    have WD := Lib.hid (fun n => H5.widthN y b.k (WB.out y (by omega) hyp) n)
                    have tk : (b.k != b.k) = false := bne_self_eq_false b.k
                    have HH5 := Lib.hid H5
                    clear H5 WD
                    have WD := Lib.hid (fun n => HH5.out.widthN y b.k (WB.out y (by omega) hyp) n)
                    go_wp2_with fail
                    go_quiet ((go_at_call 33; exact Calls.quiet_of_same (WD.out _)))
                    have HT5 := Lib.hid (HH5.out.below (below_drewN _ nq))
                    go_wp2_with fail
                    go_roundw
                    case rel => exact ⟨y + 1, by omega, by omega, by go_num, HT5⟩
                    case measure => simp [intOf]; omega
                  · go_wp2_with fail
                    go_quiet (fail)
                    have H5 := ht4.out.below (below_drewN _ nq)
                    revert H5
                    generalize wr.drewN nq = w5
                    intro H5
                    obtain ⟨g', hgg, hg5, c05, c15, c25⟩ := H5.x i (by rw [← HN.out]; exact hil)
                    cases hgg
                    rw [← HB.out] at c05 c15 c25
                    have HH5 := Lib.hid H5
                    clear H5
                    go_wp2_with fail
                    go_quiet (fail)
                    have H6 := HH5.out.below (below_drewN _ nq)
                    revert H6
                    generalize w5.drewN nq = w6
                    intro H6
                    obtain ⟨g', hgg, hg6, c06, c16, c26⟩ := H6.x i (by rw [← HN.out]; exact hil)
                    cases hgg
                    rw [← HB.out] at c06 c16 c26
                    have HH6 := Lib.hid H6
                    clear H6
                    go_wp2_with fail
                    go_roundw
                    case rel => exact ⟨i + 1, b.p + b.n, un + b.n, by omega, by rw [hp0], rfl, by go_num, Lib.hid HX.out, HH6⟩
                    case measure => simp [intOf]; omega
          · obtain rfl : i = N := by omega
            have hu : usedOf L = un := by have := hes.out.2; rw [List.take_of_length_le (by rw [← HN.out]; omega)] at this; exact this
            have HU := Lib.hid hu
            have ht' := ht.out.r.r.al.used
            rw [hu] at ht'
            have US := Lib.hid ht'
            clear hu ht'
            go_wp2_with fail
            go_at_call 29
            refine US.out.mono ?_
            rintro e w7 ⟨rfl, b7⟩
            have H7 := ht.out.below b7
            have MT := memThere H7.r.r.al.me
            rw [HU.out] at MT
            have HMT := Lib.hid MT
            have HH7 := Lib.hid H7
            clear H7 MT b7
            go_wp2_with fail
            go_at_call 25
            refine HMT.out.mono ?_
            rintro e w8 ⟨rfl, rfl⟩
            go_wp2_with fail
            go_at_call 27
            refine (awake_any _ (errType_kept hE HH7.out.r.b hel)).mono ?_
            rintro e w9 ⟨rfl, b9⟩
            go_wp2_with fail
            go_ret
            exact ⟨rfl, HH7.out.r.b.trans (b9.mono HH7.out.r.b.size)⟩
end Go.Proofs.YtlodelcenejfhaaDoor
