/- The program's blocks of cells (layer 3): contracts of Widest and of room, over the closure that tells the free ranges. The conditions: an allocator lies there, its blocks one behind the other between its two places, fewer than 2^31. -/
import Derived.Test.YtlodelcenejfhaaDoorAllocGaps
namespace Go.Proofs.YtlodelcenejfhaaDoor
open Go.RowKit Go.Shelf
set_option linter.unusedVariables false
attribute [local go_sem] Oper.semAt_some

set_option maxRecDepth 100000 in
set_option maxHeartbeats 2000000 in
/-- The closure, where the slice is nil. -/
theorem gaps1_nil_in (F : Fence) (n : Nat) (hf : F.fn 63) (hro : F.round = none) (hn : 1 ≤ n) (F0 : List Nat) (l Bs a : Nat) (frm e : Int) (h0 : 0 ≤ frm) (he : e ≤ 9223372036854775807) (hC : frm ≤ e)
    (J Jx : List (Int × Int) → World → Prop)
    (hY : ∀ pre x W, J pre W → pre.length < 1 → YieldAt F (n - 1) Tryd.prog l (encG x) W fun e W' =>
      (e = .returned (.bool true) ∧ J (pre ++ [x]) W' ∧ KeptBut F0 W W') ∨ (e = .returned (.bool false) ∧ Jx (pre ++ [x]) W'))
    (W : World) (hBs : W.cell? ⟨Bs, 0, none⟩ = some (.pointer (some ⟨a, 0, none⟩))) (c1 : W.cell? ⟨a, 1, none⟩ = some (.int .i64 frm)) (c2 : W.cell? ⟨a, 2, none⟩ = some (.int .i64 e)) (c3 : W.cell? ⟨a, 3, none⟩ = some (.slice none 0 0)) (hJ0 : J [] W) :
    CallsIn F n Tryd.prog 63 #[.func (.yield l) #[] #[], .pointer (some ⟨Bs, 0, none⟩)] W fun en W' => (∃ v, en = .returned v) ∧
      ((∃ ys, ys = gaps e frm [] ∧ J ys W') ∨ (∃ pre, pre <+: gaps e frm [] ∧ Jx pre W')) := by
  obtain ⟨fn, tmps, assign, body, hy, hR⟩ := hY [] (frm, e - frm) W hJ0 (by simp)
  dsimp only [encG] at hy
  simp only [List.nil_append] at hR
  refine callsIn_of_wp Tryd.func63 rfl hf ?_ hro
  simp only [Tryd.ntmps63, List.size_toArray, List.length_cons, List.length_nil, Nat.reduceAdd, Nat.reduceSub, Array.replicate_succ, Array.replicate_zero, List.push_toArray, List.append_toArray, List.nil_append, List.cons_append]
  gi_wp2
  gi_loopw [3, 15] (fun vf vi wr => vi = .int .i64 0 ∧ vf = .int .i64 frm ∧ wr = W) (fun _ _ _ => 0)
  case atStart => exact ⟨rfl, rfl, rfl⟩
  case round =>
    obtain ⟨rfl, rfl, rfl⟩ := hrel
    gi_wp2
    refine hR.mono ?_
    rintro en W3 (⟨rfl, hJ3, hk3⟩ | ⟨rfl, hJx3⟩)
    · gi_wp2
      go_end0
      exact ⟨⟨_, rfl⟩, .inl ⟨_, rfl, hJ3⟩⟩
    · gi_wp2
      go_end0
      exact ⟨⟨_, rfl⟩, .inr ⟨_, ⟨[], rfl⟩, hJx3⟩⟩

set_option maxHeartbeats 1000000 in
/-- gaps(): the receiver is boxed; the function value captures the box. -/
theorem gaps_in (F : Fence) (n : Nat) (hf : F.fn 49) (hro : F.round = none) (a : Nat) (w : World) :
    CallsIn F n Tryd.prog 49 #[.pointer (some ⟨a, 0, none⟩)] w fun e w' => e = .returned (.func (.func 63) #[] #[.pointer (some ⟨w.heap.size, 0, none⟩)]) ∧ w' = w.alloc (.cells #[.pointer (some ⟨a, 0, none⟩)] 33) := by
  refine callsIn_of_wp Tryd.func49 rfl hf ?_ hro
  simp only [Tryd.ntmps49, List.size_toArray, List.length_cons, List.length_nil, Nat.reduceAdd, Nat.reduceSub, Array.replicate_succ, Array.replicate_zero, List.push_toArray, List.append_toArray, List.nil_append, List.cons_append]
  gi_wp2
  go_ret
  exact ⟨rfl, rfl⟩

theorem AllocAt.kept {F : List Nat} {w w' : World} {a mb B : Nat} {frm e : Int} {v : Value} {L : List Blk} (h : AllocAt w a mb B frm e v L) (hb : KeptBut F w w') (ha : a ∉ F) : w'.cell? ⟨a, 1, none⟩ = some (.int .i64 frm) ∧ w'.cell? ⟨a, 2, none⟩ = some (.int .i64 e) ∧ w'.cell? ⟨a, 3, none⟩ = some v :=
  ⟨hb.cell (p := ⟨a, 1, none⟩) h.c1 ha, hb.cell (p := ⟨a, 2, none⟩) h.c2 ha, hb.cell (p := ⟨a, 3, none⟩) h.c3 ha⟩
theorem keptBut_of_below {F : List Nat} {w w' : World} (h : Below w.heap.size w w') : KeptBut F w w' := ⟨h.size, fun k o hk _ _ => (h.block k (Array.getElem?_eq_some_iff.1 hk).1).trans hk⟩

/-- gaps() hands back an iterator over the free ranges. -/
theorem gaps_stops (F : Fence) (n : Nat) (hf : F.fn 63) (hro : F.round = none) (hn : 1 ≤ n) (F0 : List Nat) (Bs a mb B : Nat) (frm e : Int) (v : Value) (L : List Blk) (h0 : 0 ≤ frm) (he : e ≤ 9223372036854775807) (hC : Chain e frm L) (hs : L.length < 2147483648)
    (w : World) (hF0 : ∀ k ∈ F0, k < w.heap.size) (hBs : w.cell? ⟨Bs, 0, none⟩ = some (.pointer (some ⟨a, 0, none⟩))) (hB : Bs ∉ F0) (hA : AllocAt w a mb B frm e v L) (ha : a ∉ F0) (hv : ∀ g, v.ownBlock = some g → g ∉ F0) :
    SeqStopsK F n Tryd.prog 63 #[.pointer (some ⟨Bs, 0, none⟩)] encG (KeptBut F0) (fun ys => ys = gaps e frm L) (fun pre => pre <+: gaps e frm L) (L.length + 1) w := fun l J Jx W hW hJ _ hY h0J => by
  have hBs' := (hW.cell (p := ⟨Bs, 0, none⟩) (World.block_lt_of_cell? _ _ hBs)).trans hBs
  have hA' := hA.below hW
  have hF1 : ∀ k ∈ F0, k < W.heap.size := fun k hk => Nat.lt_of_lt_of_le (hF0 k hk) hW.size
  rcases hA'.cells with ⟨rfl, rfl⟩ | ⟨g, cap, rfl, _, _, _, hcs⟩
  · exact gaps1_nil_in F n hf hro hn F0 l Bs a frm e h0 he (by have := hC.le; simpa using this) J Jx hY W hBs' hA'.c1 hA'.c2 hA'.c3 h0J
  · exact gaps1_in F n hf hro hn F0 l Bs a g cap frm e L h0 he hC hs J Jx hY (fun pre X o hx => hJ pre X _ none hx (World.grownBy_alloc X o none) (fun r e => by cases e)) W hF1 hBs' hB ⟨hA'.c1, hA'.c2, hA'.c3, hcs, ha, hv g rfl⟩ h0J

set_option maxRecDepth 100000 in
set_option maxHeartbeats 2000000 in
/-- Widest: the longest free range. -/
theorem widest_in (F : Fence) (n : Nat) (h1f : F.fn 30) (h2f : F.fn 49) (h3f : F.fn 63) (hro : F.round = none) (hn : 3 ≤ n) (a mb B : Nat) (frm e : Int) (v : Value) (L : List Blk) (h0 : 0 ≤ frm) (he : e ≤ 9223372036854775807) (hC : Chain e frm L) (hs : L.length < 2147483648)
    (w : World) (hA : AllocAt w a mb B frm e v L) :
    CallsIn F n Tryd.prog 30 #[.pointer (some ⟨a, 0, none⟩)] w fun en W' => en = .returned (.int .i64 (longest (gaps e frm L))) ∧ Below w.heap.size w W' := by
  have h1 : 1 ≤ n := by omega
  have hlo := longest_nonneg
  have HLO := Lib.hid hlo
  clear hlo
  refine callsIn_of_wp_marks Tryd.func30 rfl h1f ?_ hro
  simp only [Tryd.ntmps30, List.size_toArray, List.length_cons, List.length_nil, Nat.reduceAdd, Nat.reduceSub, Array.replicate_succ, Array.replicate_zero, List.push_toArray, List.append_toArray, List.nil_append, List.cons_append]
  gi_wp2_with (gi_at_call 49; refine (gaps_in F (n - 1) h2f hro _ _).mono ?_; rintro e w' ⟨rfl, rfl⟩)
  have bS := Boxed.new w 3 (.int .i64 0)
  have bN := Boxed.new (w.alloc (.cells #[.int .i64 0] 3)) 33 (.pointer (some ⟨a, 0, none⟩))
  rw [World.size_alloc] at bN
  have hB0 : Below w.heap.size w ((w.alloc (.cells #[.int .i64 0] 3)).alloc (.cells #[.pointer (some ⟨a, 0, none⟩)] 33)) := ((Below.refl _ w).alloc (Nat.le_refl _) _).alloc (by simp) _
  have hA0 := hA.below hB0
  have hal := hA.top.lt
  refine wpIn_rangeFunc_ownG hro h1 (gf := 63) (lb := #[.pointer (some ⟨w.heap.size + 1, 0, none⟩)]) rfl h3f (enters_of Tryd.func63 (by kernel_rfl) rfl)
    (gaps_stops F (n - 1) h3f hro (by omega) [w.heap.size] (w.heap.size + 1) a mb B frm e v L h0 he hC hs _ (by simp; omega) bN.cell (by simp) hA0 (by simp; omega) (fun g hg => by have := (hA.row.lt g hg).2; simp; omega)) keptBut_t keptBut_b (Below.refl _ _) (fun _ => rfl)
    (fun pre W => (W.cell? ⟨w.heap.size, 0, none⟩ = some (.int .i64 (longest pre)) ∧ W.frozen? ⟨w.heap.size, 0, none⟩ = false) ∧ Below w.heap.size w W)
    (fun _ _ _ => False)
    (OwnFrom.and (Own.from (fun s A B row hs hg hr => ⟨cell_kept hs.1 hg hr, (frozen_kept hs.1 hg hr).trans hs.2⟩) _) (ownFrom_below (Nat.le_refl _) (by simp; omega)))
    (fun _ _ _ _ _ hs _ _ => hs)
    ⟨⟨(bS.alloc _).cell, (bS.alloc _).frozen⟩, hB0⟩
    (fun x => { tmps := #[.pointer (some ⟨a, 0, none⟩), undef, .int .i64 0, .pointer (some ⟨w.heap.size, 0, none⟩), undef, .int .i64 x.2, .pointer (some ⟨a, 0, none⟩), .func (.func 63) #[] #[.pointer (some ⟨w.heap.size + 1, 0, none⟩)], .int .i64 x.1, .int .i64 x.2, undef, undef, undef, undef], defers := [] }) ?assign ?body ?done ?stop
  case assign =>
    intro l x W K hK
    gi_wp2
    exact hK
  case body =>
    rintro l pre x W ⟨⟨hc, hf⟩, hB⟩ _
    have hm := longest_snoc pre x
    have HM := Lib.hid hm
    clear hm
    gi_wp2
    · rename_i h
      exact ⟨(KeepsOthers.setCell _ _ _).from _, (KeptBut.refl _ _).setCell (p := ⟨w.heap.size, 0, none⟩) (by simp) _, ⟨by rw [HM.out, Int.max_eq_right (Int.le_of_lt h)]; exact World.cell?_setCell_same' _ _ _ (by rw [hc]; rfl), by rw [World.frozen?_setCell]; exact hf⟩, hB.setCell (p := ⟨w.heap.size, 0, none⟩) (Nat.le_refl _) _⟩
    · rename_i h
      exact ⟨(KeepsOthers.setCell _ _ _).from _, (KeptBut.refl _ _).setCell (p := ⟨w.heap.size, 0, none⟩) (by simp) _, ⟨by rw [HM.out, Int.max_eq_left h]; exact World.cell?_setCell_same' _ _ _ (by rw [hc]; rfl), by rw [World.frozen?_setCell]; exact hf⟩, hB.setCell (p := ⟨w.heap.size, 0, none⟩) (Nat.le_refl _) _⟩
  case done =>
    rintro D ys W hD rfl ⟨⟨hc, _⟩, hB⟩ hK
    gi_wp2
    refine ⟨by simp, .inl ⟨_, _, rfl, run_takeDeferred hK, ?_⟩⟩
    exact ⟨_, results_tmp rfl _ _ _, rfl, hB.trans (belowK_b (w := w) (Nat.le_refl _) W D _ _ (by simp at hD; omega) hK rfl rfl)⟩
  case stop =>
    rintro D c pre W _ _ h _
    exact h.elim

/-- What room hands back. -/
def roomVal (o : Option Int) : Value := .tuple #[.int .i64 (o.getD 0), .bool o.isSome]

set_option maxRecDepth 100000 in
set_option maxHeartbeats 2000000 in
/-- room: the first cell of the first free range that is long enough. -/
theorem room_in (F : Fence) (n : Nat) (h1f : F.fn 44) (h2f : F.fn 49) (h3f : F.fn 63) (hro : F.round = none) (hn : 3 ≤ n) (a mb B : Nat) (frm e : Int) (v : Value) (L : List Blk) (h0 : 0 ≤ frm) (he : e ≤ 9223372036854775807) (hC : Chain e frm L) (hs : L.length < 2147483648)
    (c : Int) (w : World) (hA : AllocAt w a mb B frm e v L) :
    CallsIn F n Tryd.prog 44 #[.pointer (some ⟨a, 0, none⟩), .int .i64 c] w fun en W' => en = .returned (roomVal (firstGap c (gaps e frm L))) ∧ Below w.heap.size w W' := by
  have h1 : 1 ≤ n := by omega
  refine callsIn_of_wp_marks Tryd.func44 rfl h1f ?_ hro
  simp only [Tryd.ntmps44, List.size_toArray, List.length_cons, List.length_nil, Nat.reduceAdd, Nat.reduceSub, Array.replicate_succ, Array.replicate_zero, List.push_toArray, List.append_toArray, List.nil_append, List.cons_append]
  gi_wp2_with (gi_at_call 49; refine (gaps_in F (n - 1) h2f hro _ _).mono ?_; rintro e w' ⟨rfl, rfl⟩)
  have bN := ((Boxed.new w 3 (.int .i64 c)).alloc (.cells #[.int .i64 0] 3)).alloc (.cells #[.bool false] 4) |>.alloc (.cells #[.pointer (some ⟨a, 0, none⟩)] 33)
  have b0 := ((Boxed.new (w.alloc (.cells #[.int .i64 c] 3)) 3 (.int .i64 0)).alloc (.cells #[.bool false] 4)).alloc (.cells #[.pointer (some ⟨a, 0, none⟩)] 33)
  have b1 := (Boxed.new ((w.alloc (.cells #[.int .i64 c] 3)).alloc (.cells #[.int .i64 0] 3)) 4 (.bool false)).alloc (.cells #[.pointer (some ⟨a, 0, none⟩)] 33)
  have bA := Boxed.new (((w.alloc (.cells #[.int .i64 c] 3)).alloc (.cells #[.int .i64 0] 3)).alloc (.cells #[.bool false] 4)) 33 (.pointer (some ⟨a, 0, none⟩))
  simp only [World.size_alloc] at b0 b1 bA
  have hB0 : Below w.heap.size w ((((w.alloc (.cells #[.int .i64 c] 3)).alloc (.cells #[.int .i64 0] 3)).alloc (.cells #[.bool false] 4)).alloc (.cells #[.pointer (some ⟨a, 0, none⟩)] 33)) := ((((Below.refl _ w).alloc (Nat.le_refl _) _).alloc (by simp) _).alloc (by simp; omega) _).alloc (by simp; omega) _
  have hsz : ((((w.alloc (.cells #[.int .i64 c] 3)).alloc (.cells #[.int .i64 0] 3)).alloc (.cells #[.bool false] 4)).alloc (.cells #[.pointer (some ⟨a, 0, none⟩)] 33)).heap.size = w.heap.size + 4 := by simp
  obtain ⟨W0, hW0⟩ : ∃ W0, ((((w.alloc (.cells #[.int .i64 c] 3)).alloc (.cells #[.int .i64 0] 3)).alloc (.cells #[.bool false] 4)).alloc (.cells #[.pointer (some ⟨a, 0, none⟩)] 33)) = W0 := ⟨_, rfl⟩
  rw [hW0] at bN b0 b1 bA hB0 hsz ⊢
  clear hW0
  have hA0 := hA.below hB0
  have hal := hA.top.lt
  refine wpIn_rangeFunc_ownG hro h1 (gf := 63) (lb := #[.pointer (some ⟨w.heap.size + 1 + 1 + 1, 0, none⟩)]) rfl h3f (enters_of Tryd.func63 (by kernel_rfl) rfl)
    (gaps_stops F (n - 1) h3f hro (by omega) [w.heap.size + 1, w.heap.size + 1 + 1] (w.heap.size + 1 + 1 + 1) a mb B frm e v L h0 he hC hs _ (fun k hk => by simp at hk; omega) bA.cell (by simp <;> omega) hA0 (by simp <;> omega) (fun g hg => by have := (hA.row.lt g hg).2; simp <;> omega)) keptBut_t keptBut_b (Below.refl _ _) (fun _ => rfl)
    (fun pre W => ((∀ g ∈ pre, g.2 < c) ∧ Boxed W w.heap.size 3 (.int .i64 c) ∧ Boxed W (w.heap.size + 1) 3 (.int .i64 0) ∧ Boxed W (w.heap.size + 1 + 1) 4 (.bool false)) ∧ Below w.heap.size w W)
    (fun cd pre W => (cd = .ret ∧ ∃ ini last, pre = ini ++ [last] ∧ (∀ g ∈ ini, g.2 < c) ∧ c ≤ last.2 ∧ Boxed W (w.heap.size + 1) 3 (.int .i64 last.1) ∧ Boxed W (w.heap.size + 1 + 1) 4 (.bool true)) ∧ Below w.heap.size w W)
    (OwnFrom.and (Own.from (fun s A B row hs hg hr => ⟨hs.1, boxed_own _ _ (fun (_ : Unit) => Value.int .i64 c) () A B row hs.2.1 hg hr, boxed_own _ _ (fun (_ : Unit) => Value.int .i64 0) () A B row hs.2.2.1 hg hr, boxed_own _ _ (fun (_ : Unit) => Value.bool false) () A B row hs.2.2.2 hg hr⟩) _) (ownFrom_below (Nat.le_refl _) (by omega)))
    (fun cd => OwnFrom.and (Own.from (fun s A B row hs hg hr => by
      obtain ⟨hc, ini, last, e1, e2, e3, e4, e5⟩ := hs
      exact ⟨hc, ini, last, e1, e2, e3, boxed_own _ _ (fun (_ : Unit) => Value.int .i64 last.1) () A B row e4 hg hr, boxed_own _ _ (fun (_ : Unit) => Value.bool true) () A B row e5 hg hr⟩) _) (ownFrom_below (Nat.le_refl _) (by omega)))
    ⟨⟨by simp, bN, b0, b1⟩, hB0⟩
    (fun x => { tmps := #[.pointer (some ⟨a, 0, none⟩), .int .i64 c, undef, .pointer (some ⟨w.heap.size, 0, none⟩), .pointer (some ⟨w.heap.size + 1, 0, none⟩), .pointer (some ⟨w.heap.size + 1 + 1, 0, none⟩), .int .i64 x.1, .int .i64 x.2, .pointer (some ⟨a, 0, none⟩), .func (.func 63) #[] #[.pointer (some ⟨w.heap.size + 1 + 1 + 1, 0, none⟩)], .int .i64 x.1, .int .i64 x.2, undef, undef, undef, undef], defers := [] }) ?assign ?body ?done ?stop
  case assign =>
    intro l x W K hK
    gi_wp2
    exact hK
  case body =>
    rintro l pre x W ⟨⟨hp, hn', hb0, hb1⟩, hB⟩ _
    have hcn := hn'.cell
    have hc0 := hb0.cell
    have hf0 := hb0.frozen
    have hc1 := hb1.cell
    have hf1 := hb1.frozen
    have X0 := (hb0.set (.int .i64 x.1)).other (B' := w.heap.size + 1 + 1) (by omega) (.bool true)
    have X1 := (hb1.other (B' := w.heap.size + 1) (by omega) (.int .i64 x.1)).set (.bool true)
    have XB := (hB.setCell (p := ⟨w.heap.size + 1, 0, none⟩) (by simp) (.int .i64 x.1)).setCell (p := ⟨w.heap.size + 1 + 1, 0, none⟩) (by simp; omega) (.bool true)
    have HN := Lib.hid hn'
    have H0 := Lib.hid hb0
    have H1 := Lib.hid hb1
    have HX0 := Lib.hid X0
    have HX1 := Lib.hid X1
    have HXB := Lib.hid XB
    clear hn' hb0 hb1 X0 X1 XB
    gi_wp2
    · have hx : c ≤ x.2 := by assumption
      exact ⟨((KeepsOthers.setCell _ _ _).trans (KeepsOthers.setCell _ _ _)).from _, ⟨rfl, pre, x, rfl, hp, hx, HX0.out, HX1.out⟩, HXB.out⟩
    · have hx : x.2 < c := by assumption
      exact ⟨KeepsFrom.refl _ _, KeptBut.refl _ _, ⟨fun p hp' => (List.mem_append.1 hp').elim (hp p) (fun e => by simp at e; subst e; exact hx), HN.out, H0.out, H1.out⟩, hB⟩
  case done =>
    rintro D ys W hD rfl ⟨⟨hp, hn', hb0, hb1⟩, hB⟩ hK
    have hc0 := hb0.cell
    have hf0 := hb0.frozen
    have hc1 := hb1.cell
    have hf1 := hb1.frozen
    have X0 := (hb0.set (.int .i64 0)).other (B' := w.heap.size + 1 + 1) (by omega) (.bool false)
    have X1 := (hb1.other (B' := w.heap.size + 1) (by omega) (.int .i64 0)).set (.bool false)
    have XB := (hB.setCell (p := ⟨w.heap.size + 1, 0, none⟩) (by simp) (.int .i64 0)).setCell (p := ⟨w.heap.size + 1 + 1, 0, none⟩) (by simp; omega) (.bool false)
    have XK := ((KeepsOthers.setCell W ⟨w.heap.size + 1, 0, none⟩ (.int .i64 0)).trans (KeepsOthers.setCell _ ⟨w.heap.size + 1 + 1, 0, none⟩ (.bool false))).same D _ hK rfl
    have HX0 := Lib.hid X0
    have HX1 := Lib.hid X1
    have HXB := Lib.hid XB
    have HXK := Lib.hid XK
    clear hn' hb0 hb1 X0 X1 XB XK
    gi_wp2
    refine ⟨by simp, .inl ⟨_, _, rfl, run_takeDeferred HXK.out, ?_⟩⟩
    have hk5 := cell_kept HX0.out.cell (grownBy_putObj' _ D (.deferred none)) (fun r e => by cases e; exact ⟨_, HXK.out, rfl⟩)
    have hb5 := cell_kept HX1.out.cell (grownBy_putObj' _ D (.deferred none)) (fun r e => by cases e; exact ⟨_, HXK.out, rfl⟩)
    refine ⟨.tuple #[.int .i64 0, .bool false], ?_, by rw [firstGap_none hp]; rfl, HXB.out.trans (belowK_b (w := w) (Nat.le_refl _) _ D _ _ (by omega) HXK.out rfl rfl)⟩
    simp [results, Tryd.f44, go_sem, hk5, hb5]
  case stop =>
    rintro D cd pre W hD hpre ⟨⟨rfl, ini, last, rfl, e2, e3, e4, e5⟩, hB⟩ hK
    gi_wp2
    refine ⟨by simp, .inl ⟨_, _, rfl, run_takeDeferred hK, ?_⟩⟩
    have hk5 := cell_kept e4.cell (grownBy_putObj' _ D (.deferred none)) (fun r e => by cases e; exact ⟨_, hK, rfl⟩)
    have hb5 := cell_kept e5.cell (grownBy_putObj' _ D (.deferred none)) (fun r e => by cases e; exact ⟨_, hK, rfl⟩)
    obtain ⟨r, hr⟩ := hpre
    have hfg : firstGap c (gaps e frm L) = some last.1 := by rw [← hr, List.append_assoc]; exact firstGap_here ini last _ e2 e3
    refine ⟨.tuple #[.int .i64 last.1, .bool true], ?_, by rw [hfg]; rfl, hB.trans (belowK_b (w := w) (Nat.le_refl _) W D _ _ (by omega) hK rfl rfl)⟩
    simp [results, Tryd.f44, go_sem, hk5, hb5]

/-- Both as calls. -/
theorem widest_any (a mb B : Nat) (frm e : Int) (v : Value) (L : List Blk) (h0 : 0 ≤ frm) (he : e ≤ 9223372036854775807) (hC : Chain e frm L) (hs : L.length < 2147483648) (w : World) (hA : AllocAt w a mb B frm e v L) :
    Calls Tryd.prog 30 #[.pointer (some ⟨a, 0, none⟩)] w fun en W' => en = .returned (.int .i64 (longest (gaps e frm L))) ∧ Below w.heap.size w W' :=
  (callsIn_wide (n := 3)).1 (widest_in Fence.wide 3 trivial trivial trivial rfl (by omega) a mb B frm e v L h0 he hC hs w hA)
theorem room_any (a mb B : Nat) (frm e : Int) (v : Value) (L : List Blk) (h0 : 0 ≤ frm) (he : e ≤ 9223372036854775807) (hC : Chain e frm L) (hs : L.length < 2147483648) (c : Int) (w : World) (hA : AllocAt w a mb B frm e v L) :
    Calls Tryd.prog 44 #[.pointer (some ⟨a, 0, none⟩), .int .i64 c] w fun en W' => en = .returned (roomVal (firstGap c (gaps e frm L))) ∧ Below w.heap.size w W' :=
  (callsIn_wide (n := 3)).1 (room_in Fence.wide 3 trivial trivial trivial rfl (by omega) a mb B frm e v L h0 he hC hs c w hA)
end Go.Proofs.YtlodelcenejfhaaDoor
