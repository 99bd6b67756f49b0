/- The statements' help blocks of layer 3: what is told, at most so many, as a new slice. The conditions: an allocator lies there, fewer than 2^31 blocks. -/
import Derived.Test.YtlodelcenejfhaaDoorAllocAwake
namespace Go.Proofs.YtlodelcenejfhaaDoor
open Go.RowKit Go.Shelf
set_option linter.unusedVariables false

/-- The function that collects: what it has, how many it wants. -/
structure Coll (W : World) (Bl Bm N : Nat) (most : Int) (v : Value) (pre : List Blk) : Prop where
  l : Boxed W Bl 58 v
  m : Boxed W Bm 3 (.int .i64 most)
  r : W.ownsRow N 65 3 v pre.length (flat pre)
  hN : N ≤ W.heap.size
section
variable {W W' : World} {Bl Bm N : Nat} {most : Int} {v : Value} {pre : List Blk}
theorem Coll.n1 (h : Coll W Bl Bm N most v pre) : some Bl ≠ v.ownBlock := Boxed.not_row h.l (by decide) h.r
theorem Coll.n2 (h : Coll W Bl Bm N most v pre) : some Bm ≠ v.ownBlock := Boxed.not_row h.m (by decide) h.r
theorem boxed_only {F : List Nat} {B : Nat} {t : TypeId} {u : Value} (h : Boxed W B t u) (ho : Only F W W') (hB : B ∉ F) : Boxed W' B t u := (ho.block B h.lt hB).trans h
theorem Coll.only {F : List Nat} (h : Coll W Bl Bm N most v pre) (ho : Only F W W') (h1 : Bl ∉ F) (h2 : Bm ∉ F) (h3 : ∀ k, v.ownBlock = some k → k ∉ F) : Coll W' Bl Bm N most v pre :=
  ⟨boxed_only h.l ho h1, boxed_only h.m ho h2, ownsRow_only h.r ho h3, Nat.le_trans h.hN ho.size⟩
theorem Coll.below (h : Coll W Bl Bm N most v pre) (hb : Below W.heap.size W W') : Coll W' Bl Bm N most v pre := h.only (F := []) (Only.of_below hb) (by simp) (by simp) (fun _ _ => by simp)
end

/-- What one call of it leaves. -/
def CollPost (Bl Bm N : Nat) (most : Int) (v : Value) (pre : List Blk) (W : World) (bb : Bool) (e : Ending) (W' : World) : Prop := e = .returned (.bool bb) ∧ ∃ v', Coll W' Bl Bm N most v' pre ∧ (∀ k, v'.ownBlock = some k → v.ownBlock = some k ∨ W.heap.size ≤ k) ∧ Only (Bl :: v.ownBlock.toList) W W'

theorem collPost_of {W W2 W3 : World} {Bl Bm N : Nat} {most : Int} {v v' : Value} {pre pre' : List Blk} (h : Coll W Bl Bm N most v pre) (hne : Bl ≠ Bm) (b2 : Below W.heap.size W W2) (hE : EditPost N v pre' W2 (.returned v') W3) (bb : Bool) :
    CollPost Bl Bm N most v pre' W bb (.returned (.bool bb)) (W3.setCell ⟨Bl, 0, none⟩ v') := by
  obtain ⟨v2, e2, hr, hj, ho⟩ := hE
  cases e2
  have h2 := h.below b2
  have s2 := b2.size
  have n1 := h2.n1
  have n2 := h2.n2
  have l3 := boxed_only h2.l ho (fun hx => n1 (Eq.symm (by simpa using hx)))
  have m3 := boxed_only h2.m ho (fun hx => n2 (Eq.symm (by simpa using hx)))
  have r3 : some Bl ≠ v'.ownBlock := Boxed.not_row l3 (by decide) hr
  have o3 : Only [Bl] W3 (W3.setCell ⟨Bl, 0, none⟩ v') := (Only.refl [Bl] W3).setCell (Or.inl (by simp)) v'
  refine ⟨rfl, v', ⟨l3.set v', boxed_only m3 o3 (by simp; exact fun hx => hne hx.symm), ownsRow_only hr o3 (fun k hk => by simp; intro hx; exact r3 (by rw [hk, hx])), by have := h.hN; have := ho.size; have := o3.size; omega⟩, ?_, ?_⟩
  · intro k hk
    rcases hj k hk with hx | hx
    · exact .inl hx
    · exact .inr (by omega)
  · exact (((Only.of_below (F := Bl :: v.ownBlock.toList) b2).trans (ho.mono (fun x hx => List.mem_cons_of_mem _ hx)))).setCell (Or.inl (by simp)) v'

set_option maxHeartbeats 2000000 in
set_option maxRecDepth 100000 in
theorem coll_any {W : World} {Bl Bm N : Nat} {most : Int} {v : Value} {pre : List Blk} (h : Coll W Bl Bm N most v pre) (hne : Bl ≠ Bm) (hs : pre.length < 2147483647) (x : Blk) (bb : Bool) (hbb : bb = decide (((pre.length + 1 : Nat) : Int) < most)) :
    Calls Tryd.prog 50 #[.agg #[.int .i64 x.p, .int .i64 x.n, .int .i64 x.k], .pointer (some ⟨Bl, 0, none⟩), .pointer (some ⟨Bm, 0, none⟩)] W (CollPost Bl Bm N most v (pre ++ [x]) W bb) := by
  have b2 : Below W.heap.size W ((W.alloc (.cells #[.int .i64 x.p, .int .i64 x.n, .int .i64 x.k] 65)).alloc (.cells #[.int .i64 x.p, .int .i64 x.n, .int .i64 x.k] 65)) := ((Below.refl _ _).alloc (Nat.le_refl _) _).alloc (by simp) _
  have h2 := h.below b2
  have hq : RowIs ((W.alloc (.cells #[.int .i64 x.p, .int .i64 x.n, .int .i64 x.k] 65)).alloc (.cells #[.int .i64 x.p, .int .i64 x.n, .int .i64 x.k] 65)) (W.heap.size + 1) x.cs := by
    have := rowIs_new (W.alloc (.cells #[.int .i64 x.p, .int .i64 x.n, .int .i64 x.k] 65)) x
    rw [World.size_alloc] at this; exact this
  obtain ⟨v', W3, hr, hE⟩ := run_append_blk h2.r (by omega) x _ hq h2.hN 58
  have hE' := hE
  obtain ⟨v2, e2, hr3, _, ho⟩ := hE
  cases e2
  obtain ⟨g', cap', rfl⟩ := ownsRow_succ (k := pre.length) (by have := hr3; simpa using this)
  have FIN := Lib.hid (collPost_of h hne b2 hE' bb)
  have l3 := boxed_only h2.l ho (fun hx => h2.n1 (Eq.symm (by simpa using hx)))
  have m3 := boxed_only h2.m ho (fun hx => h2.n2 (Eq.symm (by simpa using hx)))
  have cl := h.l.cell
  have cm := h.m.cell
  have cl3 := l3.cell
  have fl3 := l3.frozen
  have cm3 : (W3.setCell ⟨Bl, 0, none⟩ (.slice (some ⟨g', 0, none⟩) (pre.length + 1) cap')).cell? ⟨Bm, 0, none⟩ = some (.int .i64 most) := (boxed_only m3 ((Only.refl [Bl] W3).setCell (p := ⟨Bl, 0, none⟩) (Or.inl (by simp)) _) (by simp; exact fun hx => hne hx.symm)).cell
  have hll := h.l.lt
  have hml := h.m.lt
  have HR := Lib.hid hr
  obtain ⟨n0, hn0⟩ : ∃ n0, n0 = pre.length := ⟨_, rfl⟩
  rw [← hn0] at hbb hs cm3 HR
  rw [← hn0] at FIN
  have hb2 : (decide ((n0 : Int) + 1 < most)) = bb := by rw [hbb]; simp
  clear h h2 hq hr hE' hr3 ho l3 m3 b2 hbb hn0
  go_enter Tryd.func50, Tryd.ntmps50
  go_wp2_with (at_builtin; refine Lib.wpList_append_run _ rfl _ _ 58 58 rfl _ _ rfl rfl _ _ HR.out ?_)
  go_ret
  exact FIN.out

/-- What blocks leaves: a new slice of the first blocks. -/
def ToldPost (N : Nat) (L : List Blk) (w : World) (e : Ending) (w' : World) : Prop := ∃ v', e = .returned v' ∧ w'.ownsRow N 65 3 v' L.length (flat L) ∧ Below N w w'

set_option maxHeartbeats 2000000 in
set_option maxRecDepth 100000 in
/-- The closure of Blocks over the function that collects. -/
theorem blocks1_cb {w : World} (Bs a mb B N Bl Bm : Nat) (frm e : Int) (v0 : Value) (L : List Blk) (hs : L.length < 2147483647) (most : Nat) (hm : 1 ≤ most) (hBs : w.cell? ⟨Bs, 0, none⟩ = some (.pointer (some ⟨a, 0, none⟩))) (hA : AllocAt w a mb B frm e v0 L) (hne : Bl ≠ Bm)
    (hC : Coll w Bl Bm N most (.slice none 0 0) []) (hNl : N ≤ Bl) :
    Calls Tryd.prog 61 #[.func (.func 50) #[] #[.pointer (some ⟨Bl, 0, none⟩), .pointer (some ⟨Bm, 0, none⟩)], .pointer (some ⟨Bs, 0, none⟩)] w fun en w' => en = .returned (.tuple #[]) ∧ (∃ v, Coll w' Bl Bm N most v (L.take most)) ∧ Below N w w' := by
  have c3 := hA.c3
  have CL := Lib.hid (clone_any hA.row (by omega))
  have HC := Lib.hid hC
  clear hA hC
  go_enter Tryd.func61, Tryd.ntmps61
  go_wp2_with fail
  go_at_call 62
  refine CL.out.mono ?_
  rintro en W1 ⟨v', rfl, hr, hb⟩
  have C1 := Lib.hid (HC.out.below hb)
  have hN1 : N ≤ w.heap.size := HC.out.hN
  have BN := Lib.hid (hb.mono hN1)
  rcases row_cases hr with ⟨rfl, rfl⟩ | ⟨g, cap, rfl, hg, hgl, hnc, hcs⟩
  · clear hr hb
    go_wp2
    go_loopw [11] (fun vi wr => vi = .int .i64 0 ∧ wr = W1) (fun _ _ => 0)
    case atStart => exact ⟨rfl, rfl⟩
    case round =>
      obtain ⟨rfl, rfl⟩ := hrel
      go_wp2
      go_end0
      exact ⟨rfl, ⟨_, by simpa using C1.out⟩, BN.out⟩
  · have hl0 := HC.out.l.lt
    have hgB : g ≠ Bl := by omega
    have HCS := Lib.hid hcs
    clear hcs hr hb
    go_wp2
    go_loopw [11] (fun vi wr => ∃ (k : Nat) (v : Value), k ≤ L.length ∧ k < most ∧ vi = .int .i64 k ∧ Hid (Coll wr Bl Bm N most v (L.take k)) ∧ Hid (v.ownBlock ≠ some g) ∧ Hid (∀ j u, (flat L)[j]? = some u → wr.cell? ⟨g, j, none⟩ = some u) ∧ Hid (g < wr.heap.size) ∧ Hid (Below N w wr))
      (fun vi _ => L.length - (intOf vi).toNat)
    case atStart => exact ⟨0, _, Nat.zero_le _, by omega, rfl, Lib.hid (by have := C1.out; simpa using this), Lib.hid (by simp [Value.ownBlock]), HCS, Lib.hid hgl, BN⟩
    case round =>
      obtain ⟨k, v, hk, hkm, rfl, hcoll, hvg, hcells, hgw, hbw⟩ := hrel
      by_cases hlt : k < L.length
      · have d1 := take_succ_blk L k hlt
        obtain ⟨b, hbk⟩ : ∃ b, b = L.getD k blk0 := ⟨_, rfl⟩
        obtain ⟨x0, x1, x2⟩ := flat_at L k hlt
        rw [← hbk] at d1 x0 x1 x2
        have y0 := hcells.out _ _ x0
        have y1 := hcells.out _ _ x1
        have y2 := hcells.out _ _ x2
        have hpl : (L.take k).length = k := by simp; omega
        have hbx : Below wr.heap.size wr (wr.alloc (.cells #[.int .i64 b.p, .int .i64 b.n, .int .i64 b.k] 65)) := (Below.refl _ _).alloc (Nat.le_refl _) _
        have hC2 := hcoll.out.below hbx
        obtain ⟨n0, n1, n2⟩ := cells3_new wr (.int .i64 b.p) (.int .i64 b.n) (.int .i64 b.k) 65
        have CB := Lib.hid (fun bb hbb => coll_any hC2 hne (by omega) b bb hbb)
        rw [hpl, ← d1] at CB
        have D1 := Lib.hid d1
        have X := Lib.hid (And.intro hC2.r.lt hC2.n1)
        have HN2 := Lib.hid hC2.hN
        have HN1 := Lib.hid hcoll.out.hN
        have fin : ∀ W3 : World, Only (Bl :: v.ownBlock.toList) (wr.alloc (.cells #[.int .i64 b.p, .int .i64 b.n, .int .i64 b.k] 65)) W3 → (∀ j u, (flat L)[j]? = some u → W3.cell? ⟨g, j, none⟩ = some u) ∧ g < W3.heap.size ∧ Below N w W3 := fun W3 ho => by
          have hgs := hgw.out
          have hbg : W3.heap[g]? = wr.heap[g]? := by
            rw [ho.block g (by simp; omega) (by simp only [List.mem_cons, not_or]; exact ⟨hgB, fun hx => hvg.out (by simpa using hx)⟩)]
            exact heap_alloc_old wr _ g hgs
          refine ⟨fun j u hu => ?_, ?_, ?_⟩
          · rw [World.cell?_of_block (w := wr) (w' := W3) (a := ⟨g, j, none⟩) hbg]; exact hcells.out j u hu
          · have := ho.size; simp at this; omega
          · exact (hbw.out.alloc HN1.out _).trans (ho.below (fun q hq => by
              simp only [List.mem_cons] at hq
              rcases hq with rfl | hq
              · exact hNl
              · exact (X.out.1 q (by simpa using hq)).1) HN2.out)
        have FN := Lib.hid fin
        clear hbk d1 x0 x1 x2 hpl hbx hC2 fin
        by_cases hmo : k + 1 < most
        · have CB2 := Lib.hid (CB.out true (by rw [eq_comm, decide_eq_true_eq]; omega))
          go_wp2_with (go_at_call 50; refine CB2.out.mono ?_; rintro en W3 ⟨rfl, v3, hc3, hj3, ho3⟩)
          have HC3 := Lib.hid hc3
          have F3 := Lib.hid (FN.out _ ho3)
          have HV3 := Lib.hid (show v3.ownBlock ≠ some g from fun hx => by
            rcases hj3 g hx with h1 | h1
            · exact hvg.out h1
            · have := hgw.out; simp at h1; omega)
          clear hc3 hj3 ho3
          go_roundw
          case rel => exact ⟨k + 1, v3, by omega, hmo, by go_num, HC3, HV3, Lib.hid F3.out.1, Lib.hid F3.out.2.1, Lib.hid F3.out.2.2⟩
          case measure => simp [intOf]; omega
        · have CB2 := Lib.hid (CB.out false (by rw [eq_comm, decide_eq_false_iff_not]; omega))
          obtain rfl : most = k + 1 := by omega
          go_wp2_with (go_at_call 50; refine CB2.out.mono ?_; rintro en W3 ⟨rfl, v3, hc3, hj3, ho3⟩)
          have HC3 := Lib.hid hc3
          have F3 := Lib.hid (FN.out _ ho3)
          clear hc3 hj3 ho3
          refine bodyPost_ret (results_none rfl _ _ _) rfl ?_
          exact ⟨rfl, ⟨_, HC3.out⟩, F3.out.2.2⟩
      · obtain rfl : k = L.length := by omega
        have hT : L.take most = L.take L.length := by rw [List.take_of_length_le (by omega), List.take_of_length_le (Nat.le_refl _)]
        have HT := Lib.hid hT
        clear hT
        go_wp2
        go_end0
        exact ⟨rfl, ⟨_, by rw [HT.out]; exact hcoll.out⟩, hbw.out⟩

set_option maxHeartbeats 2000000 in
set_option maxRecDepth 100000 in
/-- blocks: at most so many. -/
theorem told_any {w : World} {a mb B : Nat} {frm e : Int} {v0 : Value} {L : List Blk} (hA : AllocAt w a mb B frm e v0 L) (hs : L.length < 2147483647) (most : Nat) (hm : 1 ≤ most) :
    Calls Tryd.prog 31 #[.pointer (some ⟨a, 0, none⟩), .int .i64 most] w (ToldPost w.heap.size (L.take most) w) := by
  have hal := hA.top.lt
  have bM := ((Boxed.new w 3 (.int .i64 most)).alloc (.cells #[.pointer (some ⟨a, 0, none⟩)] 33)).alloc (.cells #[.slice none 0 0] 58)
  have bA := (Boxed.new (w.alloc (.cells #[.int .i64 most] 3)) 33 (.pointer (some ⟨a, 0, none⟩))).alloc (.cells #[.slice none 0 0] 58)
  have bL := Boxed.new ((w.alloc (.cells #[.int .i64 most] 3)).alloc (.cells #[.pointer (some ⟨a, 0, none⟩)] 33)) 58 (.slice none 0 0)
  simp only [World.size_alloc] at bA bL
  have hB0 : Below w.heap.size w (((w.alloc (.cells #[.int .i64 most] 3)).alloc (.cells #[.pointer (some ⟨a, 0, none⟩)] 33)).alloc (.cells #[.slice none 0 0] 58)) := (((Below.refl _ w).alloc (Nat.le_refl _) _).alloc (by simp) _).alloc (by simp; omega) _
  have CB := Lib.hid (blocks1_cb (N := w.heap.size) (Bl := w.heap.size + 1 + 1) (Bm := w.heap.size) (w.heap.size + 1) a mb B frm e v0 L hs most hm bA.cell (hA.below hB0) (by omega) ⟨bL, bM, World.ownsRow_nil _ _ _ _, by simp; omega⟩ (by omega))
  have HB0 := Lib.hid hB0
  have MK := Lib.hid (mkBlocks_any a)
  have qn : ∀ (cp : Array Value) (W : World), Sem.run Tryd.prog (binOp .eql 106 (.func (.func 61) #[] cp) .nilFunc) W = .ok (.bool false) W := fun _ _ => by kernel_rfl
  clear hA bM bA bL hB0
  go_enter Tryd.func31, Tryd.ntmps31
  go_wp2_with (go_at_call 48; refine (MK.out _).mono ?_; rintro e w' ⟨rfl, rfl⟩)
  go_at_call 61
  refine CB.out.mono ?_
  rintro en w1 ⟨rfl, ⟨v, hc⟩, hb⟩
  have cl := hc.l.cell
  have HC := Lib.hid hc
  have HBW := Lib.hid (HB0.out.trans hb)
  clear hc hb
  go_wp2
  go_ret
  exact ⟨_, rfl, HC.out.r, HBW.out⟩
end Go.Proofs.YtlodelcenejfhaaDoor
