/- The program's blocks of cells (layer 3): the contract of the closure that tells the free ranges one by one. -/
import Derived.Test.YtlodelcenejfhaaDoorAlloc
namespace Go.Proofs.YtlodelcenejfhaaDoor
open Go.RowKit Go.Shelf
set_option linter.unusedVariables false
attribute [local go_sem] Oper.semAt_some

theorem drop_getD (L : List Blk) (k : Nat) (h : k < L.length) : L.drop k = L.getD k blk0 :: L.drop (k + 1) := by
  rw [List.drop_eq_getElem_cons h]; simp [h]
theorem cells3_new (w : World) (x y z : Value) (t : TypeId) : (w.alloc (.cells #[x, y, z] t)).cell? ⟨w.heap.size, 0, none⟩ = some x ∧ (w.alloc (.cells #[x, y, z] t)).cell? ⟨w.heap.size, 1, none⟩ = some y ∧ (w.alloc (.cells #[x, y, z] t)).cell? ⟨w.heap.size, 2, none⟩ = some z :=
  ⟨World.cell?_alloc_at _ _ _ _ rfl, World.cell?_alloc_at _ _ _ _ rfl, World.cell?_alloc_at _ _ _ _ rfl⟩

set_option maxRecDepth 100000 in
set_option maxHeartbeats 2000000 in
/-- The closure, where there is a slice: for every loop's body that writes blocks of F0 alone. -/
theorem gaps1_in (F : Fence) (n : Nat) (hf : F.fn 63) (hro : F.round = none) (hn : 1 ≤ n) (F0 : List Nat) (l Bs a g cap : Nat) (frm e : Int) (L : List Blk) (h0 : 0 ≤ frm) (he : e ≤ 9223372036854775807) (hC : Chain e frm L) (hs : L.length < 2147483648)
    (J Jx : List (Int × Int) → World → Prop)
    (hY : ∀ pre x W, J pre W → pre.length < L.length + 1 → YieldAt F (n - 1) Tryd.prog l (encG x) W fun e W' =>
      (e = .returned (.bool true) ∧ J (pre ++ [x]) W' ∧ KeptBut F0 W W') ∨ (e = .returned (.bool false) ∧ Jx (pre ++ [x]) W'))
    (hJ : ∀ pre W o, J pre W → J pre (W.alloc o))
    (W : World) (hF0 : ∀ k ∈ F0, k < W.heap.size) (hBs : W.cell? ⟨Bs, 0, none⟩ = some (.pointer (some ⟨a, 0, none⟩))) (hB : Bs ∉ F0) (hH : Holds F0 W a frm e g cap L) (hJ0 : J [] W) :
    CallsIn F n Tryd.prog 63 #[.func (.yield l) #[] #[], .pointer (some ⟨Bs, 0, none⟩)] W fun en W' => (∃ v, en = .returned v) ∧
      ((∃ ys, ys = gaps e frm L ∧ J ys W') ∨ (∃ pre, pre <+: gaps e frm L ∧ Jx pre W')) := by
  have H := Lib.hid hH
  have c1 := hH.c1
  have c3 := hH.c3
  have HC := Lib.hid hC
  have hlen := gaps_length e frm L
  have HL := Lib.hid hlen
  clear hlen hH hC
  refine callsIn_of_wp Tryd.func63 rfl hf ?_ hro
  simp only [Tryd.ntmps63, List.size_toArray, List.length_cons, List.length_nil, Nat.reduceAdd, Nat.reduceSub, Array.replicate_succ, Array.replicate_zero, List.push_toArray, List.append_toArray, List.nil_append, List.cons_append]
  gi_wp2
  gi_loopw [3, 15] (fun vf vi wr => ∃ (k : Nat) (f : Int) (pre : List (Int × Int)), k ≤ L.length ∧ 0 ≤ f ∧ f ≤ e ∧ vi = .int .i64 k ∧ vf = .int .i64 f ∧ Hid (gaps e frm L = pre ++ gaps e f (L.drop k)) ∧ Hid (pre.length = k) ∧ Hid (Chain e f (L.drop k)) ∧ Hid (J pre wr) ∧ KeptBut F0 W wr)
    (fun _ vi _ => L.length - (intOf vi).toNat)
  case atStart => exact ⟨0, frm, [], Nat.zero_le _, h0, by have := HC.out.le; omega, rfl, rfl, Lib.hid (by simp), Lib.hid rfl, Lib.hid (by simpa using HC.out), Lib.hid hJ0, KeptBut.refl _ _⟩
  case round =>
    obtain ⟨k, f, pre, hk, hf0, hfe, rfl, rfl, hg, hpl, hc, hj, hb⟩ := hrel
    have c2r := (H.out.kept hb).c2
    have cbr : wr.cell? ⟨Bs, 0, none⟩ = some (.pointer (some ⟨a, 0, none⟩)) := hb.cell (p := ⟨Bs, 0, none⟩) hBs hB
    by_cases hlt : k < L.length
    · have d1 := drop_getD L k hlt
      obtain ⟨b, hbk⟩ : ∃ b, b = L.getD k blk0 := ⟨_, rfl⟩
      obtain ⟨x0, x1, x2⟩ := flat_at L k hlt
      rw [← hbk] at d1 x0 x1 x2
      have y0 := (H.out.kept hb).cs _ _ x0
      have y1 := (H.out.kept hb).cs _ _ x1
      have y2 := (H.out.kept hb).cs _ _ x2
      have hc' := hc.out
      rw [d1] at hc'
      obtain ⟨q1, q2, q3⟩ := hc'
      have q4 := q3.le
      have hbl := hb.size
      have nb : wr.heap.size ∉ F0 := fun h => by have := hF0 _ h; omega
      have hg2 : gaps e frm L = (pre ++ [(f, b.p - f)]) ++ gaps e (b.p + b.n) (L.drop (k + 1)) := by rw [hg.out, d1, gaps]; simp
      have G2 := Lib.hid hg2
      have Q3 := Lib.hid q3
      have hk1 : KeptBut F0 W (wr.alloc (.cells #[.int .i64 b.p, .int .i64 b.n, .int .i64 b.k] 65)) := hb.alloc _
      have HK := Lib.hid hk1
      obtain ⟨n0, n1, n2⟩ := cells3_new wr (.int .i64 b.p) (.int .i64 b.n) (.int .i64 b.k) 65
      have N0 := Lib.hid n0
      have N1 := Lib.hid n1
      obtain ⟨fn, tmps, assign, body, hy, hR⟩ := hY pre (f, b.p - f) (wr.alloc (.cells #[.int .i64 b.p, .int .i64 b.n, .int .i64 b.k] 65)) (hJ _ _ _ hj.out) (by rw [hpl.out]; omega)
      dsimp only [encG] at hy
      clear hbk d1 x0 x1 x2 hc hg2 q3 hk1 n0 n1 n2
      gi_wp2
      refine hR.mono ?_
      rintro en W3 (⟨rfl, hJ3, hk3⟩ | ⟨rfl, hJx3⟩)
      · have r0 := hk3.cell N0.out nb
        have r1 := hk3.cell N1.out nb
        have J3 := Lib.hid hJ3
        clear hJ3
        gi_wp2
        go_roundw
        case rel => exact ⟨k + 1, b.p + b.n, pre ++ [(f, b.p - f)], by omega, by omega, by omega, by go_num, rfl, G2, Lib.hid (by simp [hpl.out]), Q3, J3, HK.out.trans hk3⟩
        case measure => simp [intOf]; omega
      · gi_wp2
        refine bodyPost_ret (results_none rfl _ _ _) rfl ?_
        exact ⟨⟨_, rfl⟩, .inr ⟨_, ⟨_, G2.out.symm⟩, hJx3⟩⟩
    · obtain rfl : k = L.length := by omega
      obtain ⟨fn, tmps, assign, body, hy, hR⟩ := hY pre (f, e - f) wr hj.out (by rw [hpl.out]; omega)
      dsimp only [encG] at hy
      have hgl : gaps e frm L = pre ++ [(f, e - f)] := by rw [hg.out]; simp [gaps]
      have GL := Lib.hid hgl
      clear hgl
      gi_wp2
      refine hR.mono ?_
      rintro en W3 (⟨rfl, hJ3, hk3⟩ | ⟨rfl, hJx3⟩)
      · gi_wp2
        go_end0
        exact ⟨⟨_, rfl⟩, .inl ⟨_, GL.out.symm, hJ3⟩⟩
      · gi_wp2
        go_end0
        exact ⟨⟨_, rfl⟩, .inr ⟨_, ⟨[], by rw [GL.out]; simp⟩, hJx3⟩⟩
end Go.Proofs.YtlodelcenejfhaaDoor
