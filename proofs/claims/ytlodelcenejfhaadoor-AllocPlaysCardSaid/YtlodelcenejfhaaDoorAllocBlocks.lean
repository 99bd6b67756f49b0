/- The program's blocks of cells (layer 3): the contract of the closure that tells the blocks one by one, of a copy that it makes first; and of Used. -/
import Derived.Test.YtlodelcenejfhaaDoorAllocRoom
import Derived.Test.YtlodelcenejfhaaDoorAllocSlices
namespace Go.Proofs.YtlodelcenejfhaaDoor
open Go.RowKit Go.Shelf
set_option linter.unusedVariables false
attribute [local go_sem] Oper.semAt_some

/-- A block, as the loop's body is handed it. -/
abbrev aggB (b : Blk) : Value := .agg #[.int .i64 b.p, .int .i64 b.n, .int .i64 b.k]

theorem take_succ_blk (L : List Blk) (k : Nat) (h : k < L.length) : L.take (k + 1) = L.take k ++ [L.getD k blk0] := by
  rw [List.take_succ_eq_append_getElem h]; simp [h]

/-- A slice of blocks, nil or with an address. -/
theorem row_cases {w : World} {B : Nat} {v : Value} {L : List Blk} (h : w.ownsRow B 65 3 v L.length (flat L)) :
    (v = .slice none 0 0 ∧ L = []) ∨ ∃ g cap, v = .slice (some ⟨g, 0, none⟩) L.length cap ∧ B ≤ g ∧ g < w.heap.size ∧ L.length ≤ cap ∧ ∀ j u, (flat L)[j]? = some u → w.cell? ⟨g, j, none⟩ = some u := by
  have h' := h
  rcases h.2 with ⟨e1, e2⟩ | ⟨g, cap, cur, rfl, hb, hgg, hn, hm, hs, ht⟩
  · exact .inl ⟨e1, List.eq_nil_of_length_eq_zero e2⟩
  · exact .inr ⟨g, cap, rfl, hb, (Array.getElem?_eq_some_iff.1 hgg).1, hn, fun j u hu => by have := h'.cells (g := g) rfl j u hu; rwa [add0] at this⟩

set_option maxRecDepth 100000 in
set_option maxHeartbeats 2000000 in
/-- The closure: for every loop's body that writes blocks of F0 alone. -/
theorem blocks1_in (n : Nat) (hn : 1 ≤ n) (F0 : List Nat) (l Bs a mb B : Nat) (frm e : Int) (v : Value) (L : List Blk) (hs : L.length < 2147483648)
    (J Jx : List Blk → World → Prop)
    (hY : ∀ pre x W, J pre W → pre.length < L.length → YieldAt Fence.wide (n - 1) Tryd.prog l #[aggB x] W fun e W' =>
      (e = .returned (.bool true) ∧ J (pre ++ [x]) W' ∧ KeptBut F0 W W') ∨ (e = .returned (.bool false) ∧ Jx (pre ++ [x]) W'))
    (hJ : ∀ pre W W', J pre W → Below W.heap.size W W' → J pre W')
    (W : World) (hF0 : ∀ k ∈ F0, k < W.heap.size) (hBs : W.cell? ⟨Bs, 0, none⟩ = some (.pointer (some ⟨a, 0, none⟩))) (hA : AllocAt W a mb B frm e v L) (hJ0 : J [] W) :
    CallsIn Fence.wide n Tryd.prog 61 #[.func (.yield l) #[] #[], .pointer (some ⟨Bs, 0, none⟩)] W fun en W' => (∃ v, en = .returned v) ∧
      ((∃ ys, ys = L ∧ J ys W') ∨ (∃ pre, pre <+: L ∧ Jx pre W')) := by
  have c3 := hA.c3
  have CL := Lib.hid (fun m => (callsIn_wide (n := m)).2 (clone_any hA.row hs))
  have J0 := Lib.hid (fun W' => hJ [] W W' hJ0)
  clear hA hJ0
  refine callsIn_of_wp Tryd.func61 rfl trivial ?_ rfl
  simp only [Tryd.ntmps61, List.size_toArray, List.length_cons, List.length_nil, Nat.reduceAdd, Nat.reduceSub, Array.replicate_succ, Array.replicate_zero, List.push_toArray, List.append_toArray, List.nil_append, List.cons_append]
  gi_wp2_with fail
  refine ⟨trivial, ?_⟩
  gi_at_call 62
  refine (CL.out _).mono ?_
  rintro en W1 ⟨v', rfl, hr, hb⟩
  rcases row_cases hr with ⟨rfl, rfl⟩ | ⟨g, cap, rfl, hg, hgl, hnc, hcs⟩
  · have J1 := Lib.hid (J0.out _ hb)
    gi_wp2
    gi_loopw [11] (fun vi wr => vi = .int .i64 0 ∧ wr = W1) (fun _ _ => 0)
    case atStart => exact ⟨rfl, rfl⟩
    case round =>
      obtain ⟨rfl, rfl⟩ := hrel
      gi_wp2
      go_end0
      exact ⟨⟨_, rfl⟩, .inl ⟨_, rfl, J1.out⟩⟩
  · have HJ1 := Lib.hid (J0.out _ hb)
    have hgF : g ∉ F0 := fun h => by have := hF0 _ h; omega
    have HCS := Lib.hid hcs
    have hbs := hb.size
    clear hcs hr
    gi_wp2
    gi_loopw [11] (fun vi wr => ∃ (k : Nat) (pre : List Blk), k ≤ L.length ∧ vi = .int .i64 k ∧ Hid (pre = L.take k) ∧ Hid (J pre wr) ∧ KeptBut F0 W1 wr)
      (fun vi _ => L.length - (intOf vi).toNat)
    case atStart => exact ⟨0, [], Nat.zero_le _, rfl, Lib.hid (by simp), HJ1, KeptBut.refl _ _⟩
    case round =>
      obtain ⟨k, pre, hk, rfl, hp, hj, hkb⟩ := hrel
      by_cases hlt : k < L.length
      · have d1 := take_succ_blk L k hlt
        obtain ⟨b, hbk⟩ : ∃ b, b = L.getD k blk0 := ⟨_, rfl⟩
        obtain ⟨x0, x1, x2⟩ := flat_at L k hlt
        rw [← hbk] at d1 x0 x1 x2
        have y0 := hkb.cell (HCS.out _ _ x0) hgF
        have y1 := hkb.cell (HCS.out _ _ x1) hgF
        have y2 := hkb.cell (HCS.out _ _ x2) hgF
        have D1 := Lib.hid d1
        have hpl : pre.length < L.length := by rw [hp.out]; simp; omega
        have HK := Lib.hid (hkb.alloc (.cells #[.int .i64 b.p, .int .i64 b.n, .int .i64 b.k] 65))
        obtain ⟨n0, n1, n2⟩ := cells3_new wr (.int .i64 b.p) (.int .i64 b.n) (.int .i64 b.k) 65
        obtain ⟨fn, tmps, assign, body, hy, hR⟩ := hY pre b (wr.alloc (.cells #[.int .i64 b.p, .int .i64 b.n, .int .i64 b.k] 65)) (hJ _ _ _ hj.out ((Below.refl _ _).alloc (Nat.le_refl _) _)) hpl
        dsimp only [aggB] at hy
        clear hbk d1 x0 x1 x2
        gi_wp2
        refine hR.mono ?_
        rintro en W3 (⟨rfl, hJ3, hk3⟩ | ⟨rfl, hJx3⟩)
        · have J3 := Lib.hid hJ3
          clear hJ3
          gi_wp2
          go_roundw
          case rel => exact ⟨k + 1, pre ++ [b], by omega, by go_num, Lib.hid (by rw [D1.out, hp.out]), J3, HK.out.trans hk3⟩
          case measure => simp [intOf]; omega
        · gi_wp2
          refine bodyPost_ret (results_none rfl _ _ _) rfl ?_
          exact ⟨⟨_, rfl⟩, .inr ⟨_, by rw [hp.out, ← D1.out]; exact List.take_prefix _ _, hJx3⟩⟩
      · obtain rfl : k = L.length := by omega
        have hpL : pre = L := by rw [hp.out]; simp
        have HPL := Lib.hid hpL
        clear hpL
        gi_wp2
        go_end0
        exact ⟨⟨_, rfl⟩, .inl ⟨_, HPL.out, hj.out⟩⟩

set_option maxHeartbeats 1000000 in
/-- Blocks(): the receiver is boxed; the function value captures the box. -/
theorem mkBlocks_any (a : Nat) (w : World) :
    Calls Tryd.prog 48 #[.pointer (some ⟨a, 0, none⟩)] w fun e w' => e = .returned (.func (.func 61) #[] #[.pointer (some ⟨w.heap.size, 0, none⟩)]) ∧ w' = w.alloc (.cells #[.pointer (some ⟨a, 0, none⟩)] 33) := by
  go_enter Tryd.func48, Tryd.ntmps48
  go_wp2
  go_ret
  exact ⟨rfl, rfl⟩

/-- Blocks() hands back an iterator over the blocks. -/
theorem blocks_stops (n : Nat) (hn : 1 ≤ n) (F0 : List Nat) (Bs a mb B : Nat) (frm e : Int) (v : Value) (L : List Blk) (hs : L.length < 2147483648)
    (w : World) (hF0 : ∀ k ∈ F0, k < w.heap.size) (hBs : w.cell? ⟨Bs, 0, none⟩ = some (.pointer (some ⟨a, 0, none⟩))) (hA : AllocAt w a mb B frm e v L) :
    SeqStopsK Fence.wide n Tryd.prog 61 #[.pointer (some ⟨Bs, 0, none⟩)] (fun x => #[aggB x]) (KeptBut F0) (fun ys => ys = L) (fun pre => pre <+: L) L.length w := fun l J Jx W hW hJ _ hY h0J =>
  blocks1_in n hn F0 l Bs a mb B frm e v L hs J Jx hY (fun pre X Y hx hb => hJ pre X Y none hx ⟨hb.os, hb.tape, hb.output, hb.size, fun k hk _ => hb.block k hk⟩ (fun r e => by cases e)) W
    (fun k hk => Nat.lt_of_lt_of_le (hF0 k hk) hW.size) ((hW.cell (p := ⟨Bs, 0, none⟩) (World.block_lt_of_cell? _ _ hBs)).trans hBs) (hA.below hW) h0J

/-- What Used adds up. -/
def wsum : List Blk → Int := List.foldl (fun s b => wrap64 (s + b.n)) 0
theorem wsum_snoc (pre : List Blk) (x : Blk) : wsum (pre ++ [x]) = wrap64 (wsum pre + x.n) := by simp [wsum]
theorem wsum_used {e : Int} (he : e ≤ 9223372036854775807) : ∀ (L : List Blk) (f : Int), Chain e f L → 0 ≤ f → wsum L = usedOf L := by
  have key : ∀ (L : List Blk) (f s : Int), Chain e f L → 0 ≤ s → s ≤ f → List.foldl (fun s b => wrap64 (s + b.n)) s L = s + usedOf L := by
    intro L
    induction L with
    | nil => intro f s _ _ _; simp [usedOf]
    | cons b L ih =>
      rintro f s ⟨h1, h2, h3⟩ hs hf
      have := h3.le
      simp only [List.foldl_cons, usedOf]
      have hw : wrap64 (s + b.n) = s + b.n := by unfold wrap64; omega
      rw [hw, ih _ _ h3 (by omega) (by omega)]; omega
  intro L f h hf
  have := key L f 0 h (by omega) hf
  simpa [wsum] using this
def Box3 (W : World) (Bx : Nat) (b : Blk) : Prop := W.heap[Bx]? = some (.cells #[.int .i64 b.p, .int .i64 b.n, .int .i64 b.k] 65 (0, 0))
theorem box3_own {β : Type} (Bx : Nat) (b : Blk) : Own (fun (_ : β) W => Box3 W Bx b) := fun s X Y row hs hg hrow =>
  (hg.block Bx (Array.getElem?_eq_some_iff.1 hs).1 (fun e' => by obtain ⟨o, ho, hc⟩ := hrow Bx e'.symm; rw [show X.heap[Bx]? = _ from hs] at ho; cases ho; cases hc)).trans hs
theorem Box3.new (W : World) (b : Blk) : Box3 (W.alloc (.cells #[.int .i64 b.p, .int .i64 b.n, .int .i64 b.k] 65)) W.heap.size b := World.alloc_heap_new W _
theorem Box3.c0 {W : World} {Bx : Nat} {b : Blk} (h : Box3 W Bx b) : W.cell? ⟨Bx, 0, none⟩ = some (.int .i64 b.p) := cell_of_row W Bx 0 _ _ _ h
theorem Box3.c1 {W : World} {Bx : Nat} {b : Blk} (h : Box3 W Bx b) : W.cell? ⟨Bx, 1, none⟩ = some (.int .i64 b.n) := cell_of_row W Bx 1 _ _ _ h

set_option maxRecDepth 100000 in
set_option maxHeartbeats 2000000 in
/-- Used: how many cells the blocks have. -/
theorem used_in (a mb B : Nat) (frm e : Int) (v : Value) (L : List Blk) (h0 : 0 ≤ frm) (he : e ≤ 9223372036854775807) (hC : Chain e frm L) (hs : L.length < 2147483648)
    (w : World) (hA : AllocAt w a mb B frm e v L) :
    CallsIn Fence.wide 3 Tryd.prog 29 #[.pointer (some ⟨a, 0, none⟩)] w fun en W' => en = .returned (.int .i64 (usedOf L)) ∧ Below w.heap.size w W' := by
  rw [← wsum_used he L frm hC h0]
  refine callsIn_of_wp_marks Tryd.func29 rfl trivial ?_ rfl
  simp only [Tryd.ntmps29, List.size_toArray, List.length_cons, List.length_nil, Nat.reduceAdd, Nat.reduceSub, Array.replicate_succ, Array.replicate_zero, List.push_toArray, List.append_toArray, List.nil_append, List.cons_append]
  gi_wp2_with fail
  refine ⟨trivial, ?_⟩
  gi_at_call 48
  refine ((callsIn_wide (n := 2)).2 (mkBlocks_any a _)).mono ?_
  rintro e w' ⟨rfl, rfl⟩
  gi_wp2
  have bS := (Boxed.new w 3 (.int .i64 0)).alloc (.cells #[.pointer (some ⟨a, 0, none⟩)] 33)
  have bN := Boxed.new (w.alloc (.cells #[.int .i64 0] 3)) 33 (.pointer (some ⟨a, 0, none⟩))
  rw [World.size_alloc] at bN
  have hB0 : Below w.heap.size w ((w.alloc (.cells #[.int .i64 0] 3)).alloc (.cells #[.pointer (some ⟨a, 0, none⟩)] 33)) := ((Below.refl _ w).alloc (Nat.le_refl _) _).alloc (by simp) _
  have hsz : ((w.alloc (.cells #[.int .i64 0] 3)).alloc (.cells #[.pointer (some ⟨a, 0, none⟩)] 33)).heap.size = w.heap.size + 2 := by simp
  have hA0 := hA.below hB0
  obtain ⟨W0, hW0⟩ : ∃ W0, (w.alloc (.cells #[.int .i64 0] 3)).alloc (.cells #[.pointer (some ⟨a, 0, none⟩)] 33) = W0 := ⟨_, rfl⟩
  rw [hW0] at bS bN hB0 hsz hA0 ⊢
  clear hW0
  refine wpIn_rangeFunc_ownH rfl (by omega) (gf := 61) (lb := #[.pointer (some ⟨w.heap.size + 1, 0, none⟩)]) rfl trivial (enters_of Tryd.func61 (by kernel_rfl) rfl)
    (blocks_stops 2 (by omega) [w.heap.size] (w.heap.size + 1) a mb B frm e v L hs W0 (fun k hk => by simp at hk; omega) bN.cell hA0) keptBut_t keptBut_b (Below.refl _ _) (fun _ => rfl)
    (fun pre W => Boxed W w.heap.size 3 (.int .i64 (wsum pre)) ∧ Below w.heap.size w W)
    (fun _ _ _ => False)
    (OwnFrom.and (Own.from (boxed_own _ _ _) _) (ownFrom_below (Nat.le_refl _) (by omega)))
    (fun _ _ _ _ _ hs _ _ => hs)
    ⟨bS, hB0⟩
    (fun x a' W => ∃ Bx, w.heap.size < Bx ∧ Box3 W Bx x ∧ a' = { tmps := #[.pointer (some ⟨a, 0, none⟩), undef, .int .i64 0, .pointer (some ⟨w.heap.size, 0, none⟩), .pointer (some ⟨Bx, 0, none⟩), .pointer (some ⟨a, 0, none⟩), .func (.func 61) #[] #[.pointer (some ⟨w.heap.size + 1, 0, none⟩)], aggB x, undef, undef, undef, undef, undef], defers := [] })
    (fun x a' _ X Y row hs hg hr => by obtain ⟨Bx, h1, h2, h3⟩ := hs; exact ⟨Bx, h1, box3_own (β := Unit) Bx x () X Y row h2 hg (fun r e => (hr r e).2), h3⟩)
    ?assign ?body ?done ?stop
  case assign =>
    rintro l pre x W K ⟨bS1, hB1⟩ hK
    gi_wp2
    exact hK _ _ ((KeepsOthers.alloc _ _).from _) ((KeptBut.refl _ _).alloc _) ⟨bS1.alloc _, hB1.alloc hB1.size _⟩ ⟨W.heap.size, bS1.lt, Box3.new W x, rfl⟩
  case body =>
    rintro l pre x a' W hl _ ⟨bS1, hB1⟩ ⟨Bx, hBx, bX, rfl⟩ hlt
    have cS := bS1.cell
    have fS := bS1.frozen
    have cX := bX.c1
    have HS := Lib.hid bS1
    have HX := Lib.hid bX
    clear bS1 bX
    gi_wp2
    exact ⟨(KeepsOthers.setCell _ _ _).from _, (KeptBut.refl _ _).setCell (p := ⟨w.heap.size, 0, none⟩) (by simp) _, by rw [wsum_snoc]; exact HS.out.set _, hB1.setCell (p := ⟨w.heap.size, 0, none⟩) (Nat.le_refl _) _⟩
  case done =>
    rintro D zs W hD rfl ⟨bS1, hB1⟩ hK
    have cS := bS1.cell
    gi_wp2
    refine ⟨by simp, .inl ⟨_, _, rfl, run_takeDeferred hK, ?_⟩⟩
    exact ⟨_, results_tmp rfl _ _ _, rfl, hB1.trans (belowK_b (w := w) (Nat.le_refl _) W D _ _ (by omega) hK rfl rfl)⟩
  case stop =>
    rintro D c pre W _ _ h _
    exact h.elim
theorem used_any (a mb B : Nat) (frm e : Int) (v : Value) (L : List Blk) (h0 : 0 ≤ frm) (he : e ≤ 9223372036854775807) (hC : Chain e frm L) (hs : L.length < 2147483648) (w : World) (hA : AllocAt w a mb B frm e v L) :
    Calls Tryd.prog 29 #[.pointer (some ⟨a, 0, none⟩)] w fun en W' => en = .returned (.int .i64 (usedOf L)) ∧ Below w.heap.size w W' :=
  (callsIn_wide (n := 3)).1 (used_in a mb B frm e v L h0 he hC hs w hA)
end Go.Proofs.YtlodelcenejfhaaDoor
