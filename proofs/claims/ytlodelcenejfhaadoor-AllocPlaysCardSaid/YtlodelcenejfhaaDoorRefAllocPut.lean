/- The document's blocks of cells (layer 3): contracts of Put: which error, or how the blocks lie behind it. The conditions: the blocks lie there over their memory, one behind the other between the two places, the second below 2^31. -/
import Derived.Test.YtlodelcenejfhaaDoorRefAllocGet
import Derived.Test.YtlodelcenejfhaaDoorRefMemUnmap
namespace Go.Proofs.YtlodelcenejfhaaDoor
open Go.RowKit Go.Shelf
set_option linter.unusedVariables false

abbrev mkI (F : Value) : Value := F

set_option maxHeartbeats 1000000 in
set_option maxRecDepth 100000 in
theorem refPut_none {w : World} {a mb B : Nat} {frm e : Int} {v : Value} {L : List Blk} (h : RefAl w a mb B frm e v L) (hC : Chain e frm L) (h0 : 0 ≤ frm) (he : e < 2147483648) (x : Int) (hn : ∀ j, j < L.length → (L.getD j blk0).p ≠ x) :
    Calls Tryd.prog 17 #[.pointer (some ⟨a, 0, none⟩), .int .i64 x] w (RefBad x 4 mkI w) := by
  obtain ⟨ad, cap, rfl, hB, hForm⟩ := told_ref h.row
  clear hForm
  have c3 := h.c3
  have XB := Lib.hid hB
  have hsm := hC.le
  have NN := Lib.hid (fun W => no_any allocS x 4 W)
  have FIN := Lib.hid (refBad_of (n := x) (k := 4) (mk := mkI) (Below.refl w.heap.size w))
  have HN0 := Lib.hid hn
  obtain ⟨N, hN⟩ : ∃ N, N = L.length := ⟨_, rfl⟩
  rw [← hN] at hsm c3
  have HN := Lib.hid hN
  clear h hC hB hN hn
  go_enter Tryd.func17, Tryd.ntmps17
  go_wp2_with fail
  go_loop [5] (fun vi => ∃ i : Nat, i ≤ N ∧ vi = .int .i64 i) (fun vi => N - (intOf vi).toNat)
  case atStart => exact ⟨0, by omega, rfl⟩
  case round =>
    obtain ⟨i, hi, rfl⟩ := hrel
    by_cases hlt : i < N
    · obtain ⟨g, rfl, hgw, b0, b1, b2⟩ := XB.out i (by rw [← HN.out]; exact hlt)
      have hne := HN0.out i (by rw [← HN.out]; exact hlt)
      obtain ⟨b, hb⟩ : ∃ b, b = L.getD i blk0 := ⟨_, rfl⟩
      rw [← hb] at b0 b1 b2 hne
      have e1 : (b.p == x) = false := beq_eq_false_iff_ne.2 hne
      clear hb
      go_wp2_with fail
      go_round
      case rel => exact ⟨i + 1, by omega, by go_num⟩
      case measure => simp [intOf]; omega
    · go_wp2_with (go_at_call 28; refine (NN.out _).mono ?_; rintro e w' ⟨rfl, rfl⟩)
      go_ret
      exact FIN.out

theorem below_no (w : World) (a b c : Obj) : Below w.heap.size w (((w.drew.alloc a).alloc b).alloc c) := ((((Below.refl _ w).alloc (Nat.le_refl _) a).alloc (by simp) b).alloc (by simp; omega) c).drew
theorem takeOut_first {L : List Blk} {e f : Int} (hC : Chain e f L) (j : Nat) (hj : j < L.length) : ∀ i, i < j → (L.getD i blk0).p ≠ (L.getD j blk0).p := fun i hi hx => by
  have := (hC.up j hj).2.2.2 i hi
  have := (hC.up i (by omega)).2.1
  omega

set_option maxHeartbeats 4000000 in
set_option maxRecDepth 100000 in
/-- The cells are given back. -/
theorem refPut_done {w : World} {a mb bw bh B : Nat} {frm e : Int} {v : Value} {L : List Blk} {m : Cells} (h : RefAl w a mb B frm e v L) (hm : RefMem w mb bw bh m) (hC : Chain e frm L) (h0 : 0 ≤ frm) (he : e < 2147483648) (x n : Int) (j : Nat) (hj : j < L.length) (hp : (L.getD j blk0).p = x) (hn : (L.getD j blk0).n = n)
    (hBw : B ≤ w.heap.size) (n1 : a ≠ mb) (n2 : a ≠ bw) (n3 : a ≠ bh) (hv : ∀ g, v.ownBlock = some g → g ≠ bw ∧ g ≠ bh) (m1 : Cells) (hM : ∀ w', RefMem w' mb bw bh m → Calls Tryd.prog 21 #[.pointer (some ⟨mb, 0, none⟩), .int .i64 x, .int .i64 n] w' fun en w'' => en = .returned (.pointer none) ∧ RefMem w'' mb bw bh m1 ∧ Only [bw, bh] w' w'') :
    Calls Tryd.prog 17 #[.pointer (some ⟨a, 0, none⟩), .int .i64 x] w (RefDone a mb bw bh B frm e (takeOut x L) m1 (.pointer none) w) := by
  have hfirst := takeOut_first hC j hj
  rw [hp] at hfirst
  have hout : takeOut x L = L.take j ++ L.drop (j + 1) := takeOut_at _ L j hj hfirst hp
  have HF := Lib.hid hfirst
  have HP := Lib.hid (And.intro hp hn)
  have HOUT := Lib.hid hout
  obtain ⟨ad, cap, rfl, hB, hForm⟩ := told_ref h.row
  rcases hForm with ⟨rfl, hL, rfl⟩ | ⟨g, rfl, hnc, hcm, hcs⟩
  · rw [hL] at hj; simp at hj
  have c3 := h.c3
  have c0 := h.c0
  have hlt := h.top.lt
  have XB := Lib.hid hB
  have HX := Lib.hid h
  have hsm := hC.le
  obtain ⟨g', hgg, hgw, y0, y1, y2⟩ := hB j hj
  cases hgg
  rw [hp] at y0
  rw [hn] at y1
  have gne : g ≠ bw ∧ g ≠ bh := hv g rfl
  have SC := Lib.hid (fun (W' : World) (ho : Only [bw, bh] w W') => (show W'.cell? ⟨a, 0, none⟩ = some (.pointer (some ⟨mb, 0, none⟩)) ∧ W'.cell? ⟨a, 3, none⟩ = some (.slice (some ⟨g, 0, none⟩) L.length cap) ∧ W'.cell? ⟨g, j * 3 + 1, none⟩ = some (.int .i64 n) from
    ⟨(h.only ho (by simp; exact ⟨n2, n3⟩) (fun g hg => by have := hv g hg; simp; exact this)).c0, (h.only ho (by simp; exact ⟨n2, n3⟩) (fun g hg => by have := hv g hg; simp; exact this)).c3, by
      rw [World.cell?_of_block (w := w) (w' := W') (a := ⟨g, j * 3 + 1, none⟩) (ho.block g hgw (by simp; exact gne))]; exact y1⟩))
  have UM := Lib.hid (hM w.drew ⟨hm.top.drew, hm.rw.drew, hm.rh.drew, hm.len, hm.n1, hm.n2, hm.n3⟩)
  obtain ⟨N, hN⟩ : ∃ N, N = L.length := ⟨_, rfl⟩
  rw [← hN] at hsm c3 hj hnc SC
  have HN := Lib.hid hN
  have HCS := Lib.hid hcs
  have hi0 : (0 : Int) ≤ (j : Int) := by omega
  have hi1 : (j : Int) < (N : Int) := by omega
  have exx : (x == x) = true := beq_self_eq_true x
  have hw1 : IntKind.i64.wrap ((j : Int) + 1) = (j : Int) + 1 := by rw [IntKind.wrap_i64]; omega
  have htn : ((j : Int) + 1).toNat = j + 1 := by omega
  have hb2 : ((j : Int) + 1) ≤ (N : Int) := by omega
  have hb3 : (0 : Int) ≤ (j : Int) + 1 := by omega
  have hb4 : j + 1 ≤ cap := by omega
  have hb5 : j ≤ cap := by omega
  clear h hm hC hB hN hcs hp hn hfirst hout hM hv
  go_enter Tryd.func17, Tryd.ntmps17
  go_wp2_with fail
  go_loop [5] (fun vi => ∃ i : Nat, i ≤ j ∧ vi = .int .i64 i) (fun vi => j - (intOf vi).toNat)
  case atStart => exact ⟨0, by omega, rfl⟩
  case round =>
    obtain ⟨i, hi, rfl⟩ := hrel
    by_cases hij : i < j
    · obtain ⟨g', hgg, hgw', b0, b1, b2⟩ := XB.out i (by rw [← HN.out]; omega)
      cases hgg
      have hne := HF.out i hij
      obtain ⟨b, hb⟩ : ∃ b, b = L.getD i blk0 := ⟨_, rfl⟩
      rw [← hb] at b0 b1 b2 hne
      have e1 : (b.p == x) = false := beq_eq_false_iff_ne.2 hne
      clear hb
      go_wp2_with fail
      go_round
      case rel => exact ⟨i + 1, by omega, by go_num⟩
      case measure => simp [intOf]; omega
    · obtain rfl : i = j := by omega
      go_wp2_with fail
      go_region_held3 (fun w' => w'.cell? ⟨a, 0, none⟩ = some (.pointer (some ⟨mb, 0, none⟩)) ∧ w'.cell? ⟨a, 3, none⟩ = some (.slice (some ⟨g, 0, none⟩) N cap) ∧ w'.cell? ⟨g, i * 3 + 1, none⟩ = some (.int .i64 n))
        ((first | exact SC.out _ (Only.refl _ _).drew | exact SC.out _ hoU | fail))
        (first | (go_at_call 21; ((with_reducible refine UM.out.mono ?_); rintro en w5 ⟨rfl, hm5, ho5⟩; have hoU : Only [bw, bh] w w5 := (Only.refl _ w).drew.trans ho5)))
      have HO5 := Lib.hid hoU
      have M5 := Lib.hid hm5
      clear hoU hm5 ho5
      have A5 := Lib.hid (HX.out.only HO5.out (by simp; exact ⟨n2, n3⟩) (fun g' hg => by cases hg; simp; exact gne))
      obtain ⟨ad2, cap2, hve, _, hF5⟩ := told_ref A5.out.row
      cases hve
      rcases hF5 with ⟨hx0, _⟩ | ⟨g5, hx5, _, _, hcs⟩
      · cases hx0
      cases hx5
      have x1 := (src_take (cap := cap) HN.out (.inr ⟨g, rfl, by rw [← HN.out]; omega, hcm, hcs⟩) i (by omega) cap).resolve_right (fun hh => by cases hh.1)
      have c35 := A5.out.c3
      rw [← HN.out] at c35
      have c05 := A5.out.c0
      by_cases hcap : cap = i + 1
      · obtain rfl : N = i + 1 := by omega
        subst hcap
        have x3 := src_end (w := w5) (g := g) (L := L) (i + 1) 0 (by rw [← HN.out])
        obtain ⟨v1, w6, ad', l', c', w9, r1, r3, o9, b6, b9⟩ := refApp2 i (by rw [← HN.out]; omega) x1 x3
        clear hcs x1 x3
        have q1 := (b6.cell (p := ⟨a, 3, none⟩) A5.out.top.lt).trans c35
        have q2 : w9.frozen? ⟨a, 3, none⟩ = false := (b9.frozen (p := ⟨a, 3, none⟩) A5.out.top.lt).trans A5.out.f3
        have q3 := (b9.cell (p := ⟨a, 3, none⟩) A5.out.top.lt).trans c35
        have R1 := Lib.hid r1
        have R3 := Lib.hid r3
        have O9 := Lib.hid o9
        have B9 := Lib.hid b9
        clear r1 r3 o9 b6 b9
        go_wp2_with (first
          | (at_builtin; refine Lib.wpList_append_run _ rfl _ _ 82 82 rfl _ _ rfl rfl _ _ R1.out ?_)
          | (at_builtin; refine Lib.wpList_append_run _ rfl _ _ 82 82 rfl _ _ rfl rfl _ _ R3.out ?_))
        go_at_call 40
        refine (in_nil _ _ _).mono ?_
        rintro en w10 ⟨rfl, rfl⟩
        have FIN := Lib.hid (refDone_of (w := w) (.pointer none) A5.out M5.out hBw HO5.out (by rw [HOUT.out]; exact O9.out : w9.ownsRow w5.heap.size 97 3 _ (takeOut x L).length (flat (takeOut x L))) B9.out n1 n2 n3)
        go_wp2_with fail
        go_ret
        exact FIN.out
      · have x3 := src_drop hcs (i + 1) (cap - (i + 1))
        rw [← HN.out] at x3
        obtain ⟨v1, w6, ad', l', c', w9, r1, r3, o9, b6, b9⟩ := refApp2 i (by rw [← HN.out]; omega) x1 x3
        clear hcs x1 x3
        have q1 := (b6.cell (p := ⟨a, 3, none⟩) A5.out.top.lt).trans c35
        have q2 : w9.frozen? ⟨a, 3, none⟩ = false := (b9.frozen (p := ⟨a, 3, none⟩) A5.out.top.lt).trans A5.out.f3
        have q3 := (b9.cell (p := ⟨a, 3, none⟩) A5.out.top.lt).trans c35
        have R1 := Lib.hid r1
        have R3 := Lib.hid r3
        have O9 := Lib.hid o9
        have B9 := Lib.hid b9
        clear r1 r3 o9 b6 b9
        go_wp2_with (first
          | (at_builtin; refine Lib.wpList_append_run _ rfl _ _ 82 82 rfl _ _ rfl rfl _ _ R1.out ?_)
          | (at_builtin; refine Lib.wpList_append_run _ rfl _ _ 82 82 rfl _ _ rfl rfl _ _ R3.out ?_))
        go_at_call 40
        refine (in_nil _ _ _).mono ?_
        rintro en w10 ⟨rfl, rfl⟩
        have FIN := Lib.hid (refDone_of (w := w) (.pointer none) A5.out M5.out hBw HO5.out (by rw [HOUT.out]; exact O9.out : w9.ownsRow w5.heap.size 97 3 _ (takeOut x L).length (flat (takeOut x L))) B9.out n1 n2 n3)
        go_wp2_with fail
        go_ret
        exact FIN.out

/-- What the document's Put leaves where the memory refuses: the block is free nevertheless. -/
def RefPutErr (a mb bw bh B : Nat) (frm e : Int) (L' : List Blk) (m : Cells) (l : List (ByteArray × Int)) (k : Int) (w : World) (en : Ending) (w' : World) : Prop := ∃ v' F, en = .returned F ∧ (∃ z, F = .pointer (some ⟨z, 0, none⟩)) ∧ FailAt w' F l k ∧ RefAl w' a mb B frm e v' L' ∧ RefMem w' mb bw bh m ∧ (∀ g, v'.ownBlock = some g → w.heap.size ≤ g) ∧ Only [a, bw, bh] w w'
theorem refPutErr_of {w w9 w10 : World} {a mb bw bh B : Nat} {frm e : Int} {L' : List Blk} {m : Cells} {r : Value} {en : Ending} {l : List (ByteArray × Int)} {k : Int} {zz : Nat} (h : RefDone a mb bw bh B frm e L' m r w en w9) (hF : FailAt w10 (.pointer (some ⟨zz, 0, none⟩)) l k) (hb : Below w9.heap.size w9 w10) :
    RefPutErr a mb bw bh B frm e L' m l k w (.returned (.pointer (some ⟨zz, 0, none⟩))) w10 := by
  obtain ⟨v', _, h1, h2, h3, h4⟩ := h
  exact ⟨v', _, rfl, ⟨_, rfl⟩, hF, h1.below hb, h2.only (F := []) (Only.of_below hb) (by simp) (by simp) (by simp), h3, h4.trans (Only.of_below hb)⟩

set_option maxHeartbeats 4000000 in
set_option maxRecDepth 100000 in
/-- The memory refuses: the block is free nevertheless. -/
theorem refPut_fail {w : World} {a mb bw bh B : Nat} {frm e : Int} {v : Value} {L : List Blk} {m : Cells} (h : RefAl w a mb B frm e v L) (hm : RefMem w mb bw bh m) (hC : Chain e frm L) (h0 : 0 ≤ frm) (he : e < 2147483648) (x n : Int) (j : Nat) (hj : j < L.length) (hp : (L.getD j blk0).p = x) (hn : (L.getD j blk0).n = n)
    (hBw : B ≤ w.heap.size) (n1 : a ≠ mb) (n2 : a ≠ bw) (n3 : a ≠ bh) (hv : ∀ g, v.ownBlock = some g → g ≠ bw ∧ g ≠ bh) (n' k' : Int) (hM : ∀ w', RefMem w' mb bw bh m → Calls Tryd.prog 21 #[.pointer (some ⟨mb, 0, none⟩), .int .i64 x, .int .i64 n] w' (NoPost memS n' k' w')) :
    Calls Tryd.prog 17 #[.pointer (some ⟨a, 0, none⟩), .int .i64 x] w (RefPutErr a mb bw bh B frm e (takeOut x L) m [(allocS, x), (memS, n')] k' w) := by
  have hfirst := takeOut_first hC j hj
  rw [hp] at hfirst
  have hout : takeOut x L = L.take j ++ L.drop (j + 1) := takeOut_at _ L j hj hfirst hp
  have HF := Lib.hid hfirst
  have HP := Lib.hid (And.intro hp hn)
  have HOUT := Lib.hid hout
  obtain ⟨ad, cap, rfl, hB, hForm⟩ := told_ref h.row
  rcases hForm with ⟨rfl, hL, rfl⟩ | ⟨g, rfl, hnc, hcm, hcs⟩
  · rw [hL] at hj; simp at hj
  have c3 := h.c3
  have c0 := h.c0
  have hlt := h.top.lt
  have XB := Lib.hid hB
  have HX := Lib.hid h
  have hsm := hC.le
  obtain ⟨g', hgg, hgw, y0, y1, y2⟩ := hB j hj
  cases hgg
  rw [hp] at y0
  rw [hn] at y1
  have gne : g ≠ bw ∧ g ≠ bh := hv g rfl
  have SC := Lib.hid (fun (W' : World) (ho : Only [bw, bh] w W') => (show W'.cell? ⟨a, 0, none⟩ = some (.pointer (some ⟨mb, 0, none⟩)) ∧ W'.cell? ⟨a, 3, none⟩ = some (.slice (some ⟨g, 0, none⟩) L.length cap) ∧ W'.cell? ⟨g, j * 3 + 1, none⟩ = some (.int .i64 n) from
    ⟨(h.only ho (by simp; exact ⟨n2, n3⟩) (fun g hg => by have := hv g hg; simp; exact this)).c0, (h.only ho (by simp; exact ⟨n2, n3⟩) (fun g hg => by have := hv g hg; simp; exact this)).c3, by
      rw [World.cell?_of_block (w := w) (w' := W') (a := ⟨g, j * 3 + 1, none⟩) (ho.block g hgw (by simp; exact gne))]; exact y1⟩))
  have HM0 := Lib.hid hm
  have UM := Lib.hid (hM w.drew ⟨hm.top.drew, hm.rw.drew, hm.rh.drew, hm.len, hm.n1, hm.n2, hm.n3⟩)
  obtain ⟨N, hN⟩ : ∃ N, N = L.length := ⟨_, rfl⟩
  rw [← hN] at hsm c3 hj hnc SC
  have HN := Lib.hid hN
  have HCS := Lib.hid hcs
  have hi0 : (0 : Int) ≤ (j : Int) := by omega
  have hi1 : (j : Int) < (N : Int) := by omega
  have exx : (x == x) = true := beq_self_eq_true x
  have hw1 : IntKind.i64.wrap ((j : Int) + 1) = (j : Int) + 1 := by rw [IntKind.wrap_i64]; omega
  have htn : ((j : Int) + 1).toNat = j + 1 := by omega
  have hb2 : ((j : Int) + 1) ≤ (N : Int) := by omega
  have hb3 : (0 : Int) ≤ (j : Int) + 1 := by omega
  have hb4 : j + 1 ≤ cap := by omega
  have hb5 : j ≤ cap := by omega
  clear h hm hC hB hN hcs hp hn hfirst hout hM hv
  go_enter Tryd.func17, Tryd.ntmps17
  go_wp2_with fail
  go_loop [5] (fun vi => ∃ i : Nat, i ≤ j ∧ vi = .int .i64 i) (fun vi => j - (intOf vi).toNat)
  case atStart => exact ⟨0, by omega, rfl⟩
  case round =>
    obtain ⟨i, hi, rfl⟩ := hrel
    by_cases hij : i < j
    · obtain ⟨g', hgg, hgw', b0, b1, b2⟩ := XB.out i (by rw [← HN.out]; omega)
      cases hgg
      have hne := HF.out i hij
      obtain ⟨b, hb⟩ : ∃ b, b = L.getD i blk0 := ⟨_, rfl⟩
      rw [← hb] at b0 b1 b2 hne
      have e1 : (b.p == x) = false := beq_eq_false_iff_ne.2 hne
      clear hb
      go_wp2_with fail
      go_round
      case rel => exact ⟨i + 1, by omega, by go_num⟩
      case measure => simp [intOf]; omega
    · obtain rfl : i = j := by omega
      go_wp2_with fail
      go_region_held3 (fun w' => w'.cell? ⟨a, 0, none⟩ = some (.pointer (some ⟨mb, 0, none⟩)) ∧ w'.cell? ⟨a, 3, none⟩ = some (.slice (some ⟨g, 0, none⟩) N cap) ∧ w'.cell? ⟨g, i * 3 + 1, none⟩ = some (.int .i64 n))
        ((first | exact SC.out _ (Only.refl _ _).drew | exact SC.out _ hoU | fail))
        (first | (go_at_call 21; ((with_reducible refine UM.out.mono ?_); rintro en w5 ⟨rfl, hw5⟩; have b5 : Below w.heap.size w w5 := (by rw [hw5]; exact below_no w _ _ _); have hoU : Only [bw, bh] w w5 := Only.of_below b5; have F5 := Lib.hid (show FailBlk w5 w.heap.size memS n' k' from (by rw [hw5]; exact FailBlk.new w.drew memS n' k')); clear hw5)))
      have HO5 := Lib.hid hoU
      have M5 := Lib.hid (HM0.out.only (F := []) (Only.of_below b5) (by simp) (by simp) (by simp))
      clear hoU b5
      have A5 := Lib.hid (HX.out.only HO5.out (by simp; exact ⟨n2, n3⟩) (fun g' hg => by cases hg; simp; exact gne))
      obtain ⟨ad2, cap2, hve, _, hF5⟩ := told_ref A5.out.row
      cases hve
      rcases hF5 with ⟨hx0, _⟩ | ⟨g5, hx5, _, _, hcs⟩
      · cases hx0
      cases hx5
      have x1 := (src_take (cap := cap) HN.out (.inr ⟨g, rfl, by rw [← HN.out]; omega, hcm, hcs⟩) i (by omega) cap).resolve_right (fun hh => by cases hh.1)
      have c35 := A5.out.c3
      rw [← HN.out] at c35
      have c05 := A5.out.c0
      by_cases hcap : cap = i + 1
      · obtain rfl : N = i + 1 := by omega
        subst hcap
        have x3 := src_end (w := w5) (g := g) (L := L) (i + 1) 0 (by rw [← HN.out])
        obtain ⟨v1, w6, ad', l', c', w9, r1, r3, o9, b6, b9⟩ := refApp2 i (by rw [← HN.out]; omega) x1 x3
        clear hcs x1 x3
        have q1 := (b6.cell (p := ⟨a, 3, none⟩) A5.out.top.lt).trans c35
        have q2 : w9.frozen? ⟨a, 3, none⟩ = false := (b9.frozen (p := ⟨a, 3, none⟩) A5.out.top.lt).trans A5.out.f3
        have q3 := (b9.cell (p := ⟨a, 3, none⟩) A5.out.top.lt).trans c35
        have R1 := Lib.hid r1
        have R3 := Lib.hid r3
        have O9 := Lib.hid o9
        have B9 := Lib.hid b9
        clear r1 r3 o9 b6 b9
        go_wp2_with (first
          | (at_builtin; refine Lib.wpList_append_run _ rfl _ _ 82 82 rfl _ _ rfl rfl _ _ R1.out ?_)
          | (at_builtin; refine Lib.wpList_append_run _ rfl _ _ 82 82 rfl _ _ rfl rfl _ _ R3.out ?_))
        go_at_call 40
        have FD := refDone_of (w := w) (.pointer none) A5.out M5.out hBw HO5.out (by rw [HOUT.out]; exact O9.out : w9.ownsRow w5.heap.size 97 3 _ (takeOut x L).length (flat (takeOut x L))) B9.out n1 n2 n3
        have os : Only [a] w9 (w9.setCell ⟨a, 3, none⟩ (.slice ad' l' c')) := (Only.refl [a] w9).setCell (Or.inl (by simp)) _
        have hfl := F5.out.f2
        have hz2 := heap_lt hfl
        have zne : w.heap.size ≠ a ∧ w.heap.size + 1 ≠ a ∧ w.heap.size + 1 + 1 ≠ a := by omega
        have F9 := (F5.out.only (F := []) (Only.of_below B9.out) (by simp) (by simp) (by simp)).only os (by simp; omega) (by simp; omega) (by simp; omega)
        refine (in_some allocS x w.heap.size memS n' k' _ F9).mono ?_
        rintro en w10 ⟨F, rfl, ⟨zz, rfl⟩, hF, b10⟩
        have FIN := Lib.hid (show RefPutErr a mb bw bh B frm e (takeOut x L) m [(allocS, x), (memS, n')] k' w (.returned (.pointer (some ⟨zz, 0, none⟩))) w10 from refPutErr_of FD hF b10)
        clear FD hF b10 F9 hfl
        go_wp2_with fail
        go_ret
        exact FIN.out
      · have x3 := src_drop hcs (i + 1) (cap - (i + 1))
        rw [← HN.out] at x3
        obtain ⟨v1, w6, ad', l', c', w9, r1, r3, o9, b6, b9⟩ := refApp2 i (by rw [← HN.out]; omega) x1 x3
        clear hcs x1 x3
        have q1 := (b6.cell (p := ⟨a, 3, none⟩) A5.out.top.lt).trans c35
        have q2 : w9.frozen? ⟨a, 3, none⟩ = false := (b9.frozen (p := ⟨a, 3, none⟩) A5.out.top.lt).trans A5.out.f3
        have q3 := (b9.cell (p := ⟨a, 3, none⟩) A5.out.top.lt).trans c35
        have R1 := Lib.hid r1
        have R3 := Lib.hid r3
        have O9 := Lib.hid o9
        have B9 := Lib.hid b9
        clear r1 r3 o9 b6 b9
        go_wp2_with (first
          | (at_builtin; refine Lib.wpList_append_run _ rfl _ _ 82 82 rfl _ _ rfl rfl _ _ R1.out ?_)
          | (at_builtin; refine Lib.wpList_append_run _ rfl _ _ 82 82 rfl _ _ rfl rfl _ _ R3.out ?_))
        go_at_call 40
        have FD := refDone_of (w := w) (.pointer none) A5.out M5.out hBw HO5.out (by rw [HOUT.out]; exact O9.out : w9.ownsRow w5.heap.size 97 3 _ (takeOut x L).length (flat (takeOut x L))) B9.out n1 n2 n3
        have os : Only [a] w9 (w9.setCell ⟨a, 3, none⟩ (.slice ad' l' c')) := (Only.refl [a] w9).setCell (Or.inl (by simp)) _
        have hfl := F5.out.f2
        have hz2 := heap_lt hfl
        have zne : w.heap.size ≠ a ∧ w.heap.size + 1 ≠ a ∧ w.heap.size + 1 + 1 ≠ a := by omega
        have F9 := (F5.out.only (F := []) (Only.of_below B9.out) (by simp) (by simp) (by simp)).only os (by simp; omega) (by simp; omega) (by simp; omega)
        refine (in_some allocS x w.heap.size memS n' k' _ F9).mono ?_
        rintro en w10 ⟨F, rfl, ⟨zz, rfl⟩, hF, b10⟩
        have FIN := Lib.hid (show RefPutErr a mb bw bh B frm e (takeOut x L) m [(allocS, x), (memS, n')] k' w (.returned (.pointer (some ⟨zz, 0, none⟩))) w10 from refPutErr_of FD hF b10)
        clear FD hF b10 F9 hfl
        go_wp2_with fail
        go_ret
        exact FIN.out
end Go.Proofs.YtlodelcenejfhaaDoor
