/- An access of a cell by an instruction (layer 6): the contract of access, over a memory behind the interface Cells. The conditions: frame and memory lie there, apart; what they hold are words. -/
import Derived.Test.YtobbmhboahognaaDoorVmResult
import Derived.Test.YtobbmhboahognaaDoorMemCalls
namespace Go.Proofs.YtobbmhboahognaaDoor
open Go.RowKit
set_option linter.unusedVariables false

/-- What a cell of width k, which held was, holds behind an access by a (and v). -/
def accV (op k was a v : Int) : Int := if op = 17 then was else if op = 18 ∨ op = 19 then cut k a else if op = 20 then summ k was a else casVal k was a v
/-- What the register holds behind it. -/
def accR (op was a : Int) : Int := if op = 18 then a else was
/-- What access leaves. -/
def AccOk (bm bc : Nat) (m : Cells) (t : Int) (at' : Nat) (y u : Int) (w : World) (e : Ending) (w' : World) : Prop := e = .returned (.tuple #[.int .u64 u, .nilIface]) ∧
  MemAt w' bm bc { ws := m.ws, hs := m.hs.set at' y, n := m.n + 1 } t ∧ Only [bm, bc] w w'
def AccNo (place : Int) (w : World) (e : Ending) (w' : World) : Prop := ∃ (u : Int) (z : Nat), e = .returned (.tuple #[.int .u64 u, .iface 108 (.pointer (some ⟨z, 0, none⟩))]) ∧
  w'.heap[z]? = some (.cells #[.string memS, .int .i64 place, .iface 55 (.int .i64 2)] 112) ∧ w.heap.size ≤ z ∧ Below w.heap.size w w'
def VAcc (bm bc : Nat) (m : Cells) (t : Int) (at' : Nat) (y u : Int) (w : World) (e : Ending) (w' : World) : Prop :=
  if widthAt m.ws at' = 0 then AccNo (badPlace at') w e w' else AccOk bm bc m t at' y u w e w'

theorem addrP_range (f : Frm) (x : Inst) : 0 ≤ addrP f x ∧ addrP f x < 18446744073709551616 := by unfold addrP; omega
/-- The box's cells. -/
def Box7 (V : World) (X : Nat) (op a b' c v m wh : Int) : Prop := V.cell? ⟨X, 0, none⟩ = some (.int .i64 op) ∧ V.cell? ⟨X, 1, none⟩ = some (.int .i64 a) ∧ V.cell? ⟨X, 2, none⟩ = some (.int .i64 b') ∧ V.cell? ⟨X, 3, none⟩ = some (.int .i64 c) ∧ V.cell? ⟨X, 4, none⟩ = some (.int .u64 v) ∧
  V.cell? ⟨X, 5, none⟩ = some (.int .i64 m) ∧ V.cell? ⟨X, 6, none⟩ = some (.int .i64 wh)
theorem box7_only {w V V' : World} {X : Nat} {op a b' c v m wh : Int} (h : IBox w V X op a b' c v m wh) {F : List Nat} (ho : Only F V V') (hF : X ∉ F) : Box7 V' X op a b' c v m wh := by
  have r := h.r.only ho hF
  exact ⟨r.cell 0 (by simp), r.cell 1 (by simp), r.cell 2 (by simp), r.cell 3 (by simp), r.cell 4 (by simp), r.cell 5 (by simp), r.cell 6 (by simp)⟩
theorem acc_ok {bm bc : Nat} {m : Cells} {t : Int} {at' : Nat} {y u : Int} {w W w' : World} {e : Ending} (hw : ¬ widthAt m.ws at' = 0) (hb : Below w.heap.size w W) (he : e = .returned (.tuple #[.int .u64 u, .nilIface]))
    (hm : MemAt w' bm bc { ws := m.ws, hs := m.hs.set at' y, n := m.n + 1 } t) (ho : Only [bm, bc] W w') : VAcc bm bc m t at' y u w e w' := by
  unfold VAcc; rw [if_neg hw]; exact ⟨he, hm, (Only.mono (F := []) (Only.of_below hb) (by simp)).trans ho⟩
theorem acc_no {bm bc : Nat} {m : Cells} {t : Int} {at' : Nat} {y u u' : Int} {w W : World} {e : Ending} (hw : widthAt m.ws at' = 0) (hb : Below w.heap.size w W) (he : e = .returned (.tuple #[.int .u64 u', .iface 108 (.pointer (some ⟨W.heap.size, 0, none⟩))])) :
    VAcc bm bc m t at' y u w e (W.alloc (.cells #[.string memS, .int .i64 (badPlace at'), .iface 55 (.int .i64 2)] 112)) := by
  unfold VAcc; rw [if_pos hw]
  exact ⟨_, _, he, heap_alloc_new _ _, hb.size, hb.alloc hb.size _⟩
theorem ahead_Load (a : Addr) (w : World) : (nilAhead 332 25 (.pointer (some a)) "Load").run Tryd.prog w = .ok (some false) w := by kernel_rfl
theorem method_Load (a : Addr) (w : World) : (method 332 25 (.pointer (some a)) "Load").run Tryd.prog w = .ok (40, .pointer (some a)) w := by kernel_rfl
theorem ahead_Store (a : Addr) (w : World) : (nilAhead 332 25 (.pointer (some a)) "Store").run Tryd.prog w = .ok (some false) w := by kernel_rfl
theorem method_Store (a : Addr) (w : World) : (method 332 25 (.pointer (some a)) "Store").run Tryd.prog w = .ok (38, .pointer (some a)) w := by kernel_rfl
theorem ahead_Swap (a : Addr) (w : World) : (nilAhead 332 25 (.pointer (some a)) "Swap").run Tryd.prog w = .ok (some false) w := by kernel_rfl
theorem method_Swap (a : Addr) (w : World) : (method 332 25 (.pointer (some a)) "Swap").run Tryd.prog w = .ok (128, .pointer (some a)) w := by kernel_rfl
theorem ahead_Add (a : Addr) (w : World) : (nilAhead 332 25 (.pointer (some a)) "Add").run Tryd.prog w = .ok (some false) w := by kernel_rfl
theorem method_Add (a : Addr) (w : World) : (method 332 25 (.pointer (some a)) "Add").run Tryd.prog w = .ok (126, .pointer (some a)) w := by kernel_rfl
theorem ahead_Cas (a : Addr) (w : World) : (nilAhead 332 25 (.pointer (some a)) "Cas").run Tryd.prog w = .ok (some false) w := by kernel_rfl
theorem method_Cas (a : Addr) (w : World) : (method 332 25 (.pointer (some a)) "Cas").run Tryd.prog w = .ok (127, .pointer (some a)) w := by kernel_rfl

set_option maxHeartbeats 4000000 in
set_option maxRecDepth 100000 in
theorem access_any {w : World} {b : Nat} {N : List Nat} {f : Frm} {A : Option Addr} {cap : Nat} (h : FrameIn w b N f A cap) (ho : FrmOk f) (bm bc : Nat) (m : Cells) (t : Int) (M : MemAt w bm bc m t) (g : Good m) (hn0 : 0 ≤ m.n) (hn : m.n < 9223372036854775807)
    (op b' c v m' wh : Int) (k : Nat) (hk : k < 32) (hop : 17 ≤ op ∧ op ≤ 21) (v0 : 0 ≤ v) (v1 : v ≤ 18446744073709551615) (at' : Nat) (hat : addrP f ⟨op, k, b', c, v, m', wh⟩ = at') :
    Calls Tryd.prog 44 #[.pointer (some ⟨b, 0, none⟩), .agg #[.int .i64 op, .int .i64 k, .int .i64 b', .int .i64 c, .int .u64 v, .int .i64 m', .int .i64 wh], .iface 25 (.pointer (some ⟨bm, 0, none⟩))] w
      (VAcc bm bc m t at' (accV op (widthAt m.ws at') (m.hs.getD at' 0) (f.r.getD k 0) (valP f ⟨op, k, b', c, v, m', wh⟩)) (accR op (m.hs.getD at' 0) (f.r.getD k 0)) w) := by
  have r0 := ho.r0 k
  have r1 := ho.r1 k
  have R0 := RBox.new h op k b' c v m' wh
  obtain ⟨W, hW⟩ : ∃ W, W = w.alloc (.cells #[.int .i64 op, .int .i64 k, .int .i64 b', .int .i64 c, .int .u64 v, .int .i64 m', .int .i64 wh] 52) := ⟨_, rfl⟩
  obtain ⟨X, hX⟩ : ∃ X, X = w.heap.size := ⟨_, rfl⟩
  rw [← hW, ← hX] at R0
  have AD := Lib.hid (fun V (hV : RBox w V X b N f A cap op k b' c v m' wh) => (address_any hV.f ho op k b' c v m' wh v0 v1).mono fun e w' hp => (⟨hp.1.trans (by rw [hat]), hV.below hp.2⟩ : e = .returned (.int .u64 at') ∧ RBox w w' X b N f A cap op k b' c v m' wh))
  have fr := R0.f.reg k hk
  obtain ⟨x0, x1, x2, x3, x4, x5, x6⟩ := R0.x.cells
  have RD : RBox w W.drew X b N f A cap op k b' c v m' wh := R0.drew
  have RC := Lib.hid (fun V (hV : RBox w V X b N f A cap op k b' c v m' wh) => (⟨hV.x.cells, hV.f.reg k hk⟩ : _ ∧ _))
  have z0 := ho.val (x := ⟨op, k, b', c, v, m', wh⟩) v0 v1
  have VL := Lib.hid (fun V (hV : RBox w V X b N f A cap op k b' c v m' wh) => (value_any hV.f op k b' c v m' wh).mono fun e w' hp => (⟨hp.1, hV.below hp.2⟩ : e = .returned (.int .u64 (valP f ⟨op, k, b', c, v, m', wh⟩)) ∧ RBox w w' X b N f A cap op k b' c v m' wh))
  obtain ⟨a, ha⟩ : ∃ a, a = f.r.getD k 0 := ⟨_, rfl⟩
  rw [← ha] at fr RC r0 r1 ⊢
  obtain ⟨z, hz⟩ : ∃ z, z = valP f ⟨op, k, b', c, v, m', wh⟩ := ⟨_, rfl⟩
  rw [← hz] at z0 VL ⊢
  obtain ⟨Y, hY⟩ : ∃ Y, Y = accV op (widthAt m.ws at') (m.hs.getD at' 0) a z := ⟨_, rfl⟩
  obtain ⟨U, hU⟩ : ∃ U, U = accR op (m.hs.getD at' 0) a := ⟨_, rfl⟩
  rw [← hY, ← hU]
  have HY := Lib.hid hY
  have HU := Lib.hid hU
  have hk' : (k : Int) < 32 := by omega
  have hA := (addrP_range f ⟨op, k, b', c, v, m', wh⟩).2
  rw [hat] at hA
  have hat2 : at' < 18446744073709551616 := by omega
  obtain ⟨z0, z1⟩ := z0
  clear h ho R0 ha hat hz hY hU hA
  go_enter Tryd.func44, Tryd.ntmps44
  go_upto_region 1 with fail
  rw [← hW, ← hX]
  clear hW hX
  go_cut [0, 2, 4, 8, 9] from 8 to 63 (fun s0 s2 s4 s8 s9 w' => s0 = .pointer (some ⟨b, 0, none⟩) ∧ s2 = .iface 25 (.pointer (some ⟨bm, 0, none⟩)) ∧ s4 = .pointer (some ⟨X, 0, none⟩) ∧ s8 = .int .u64 at' ∧ s9 = .int .u64 a ∧ RBox w w' X b N f A cap op k b' c v m' wh)
  case first =>
    go_region_held3 (fun w' => w'.cell? ⟨X, 0, none⟩ = some (.int .i64 op) ∧ w'.cell? ⟨X, 1, none⟩ = some (.int .i64 k) ∧ w'.cell? ⟨X, 2, none⟩ = some (.int .i64 b') ∧ w'.cell? ⟨X, 3, none⟩ = some (.int .i64 c) ∧ w'.cell? ⟨X, 4, none⟩ = some (.int .u64 v) ∧ w'.cell? ⟨X, 5, none⟩ = some (.int .i64 m') ∧ w'.cell? ⟨X, 6, none⟩ = some (.int .i64 wh) ∧ w'.cell? ⟨b, 1 + k, none⟩ = some (.int .u64 a)) (go_keep)
      (first
        | (go_at_call 72; ((with_reducible refine (AD.out _ (by exact RD)).mono ?_); rintro e w1 ⟨rfl, R2⟩; obtain ⟨⟨x0, x1, x2, x3, x4, x5, x6⟩, fr⟩ := RC.out _ R2)))
    all_goals
      go_wp2_with fail
      go_meet
      exact ⟨rfl, rfl, rfl, rfl, rfl, R2⟩
  case rest =>
  obtain ⟨rfl, rfl, rfl, rfl, rfl, R2⟩ := hcut
  clear x0 x1 x2 x3 x4 x5 x6 fr RD AD RC
  obtain ⟨x0, x1, x2, x3, x4, x5, x6⟩ := R2.x.cells
  have M0 := Lib.hid M
  have MM := Lib.hid (M.only (F := []) (Only.of_below R2.x.b) (by simp) (by simp))
  have FB := Lib.hid R2.x.b
  have hc : op = 17 ∨ op = 18 ∨ op = 19 ∨ op = 20 ∨ op = 21 := by omega
  clear hop M
  by_cases hw : widthAt m.ws at' = 0
  · have HW := Lib.hid hw
    rcases hc with rfl | rfl | rfl | rfl | rfl
    · have CT := Lib.hid (memLoad_bad MM.out g at' hat2 hw)
      have m1 := ahead_Load ⟨bm, 0, none⟩
      have m2 := method_Load ⟨bm, 0, none⟩
      clear hw MM
      go_wp2_with fail
      go_at_call 40
      refine CT.out.mono ?_
      rintro e w1 ⟨rfl, rfl⟩
      go_wp2_with fail
      go_ret2
      exact acc_no HW.out FB.out rfl
    · have CT := Lib.hid (memStore_bad MM.out g at' hat2 a hw)
      have m1 := ahead_Store ⟨bm, 0, none⟩
      have m2 := method_Store ⟨bm, 0, none⟩
      clear hw MM
      go_wp2_with fail
      go_at_call 38
      refine CT.out.mono ?_
      rintro e w1 ⟨rfl, rfl⟩
      go_wp2_with fail
      go_ret2
      exact acc_no HW.out FB.out rfl
    · have CT := Lib.hid (memSwap_bad MM.out g at' hat2 a hw)
      have m1 := ahead_Swap ⟨bm, 0, none⟩
      have m2 := method_Swap ⟨bm, 0, none⟩
      clear hw MM
      go_wp2_with fail
      go_at_call 128
      refine CT.out.mono ?_
      rintro e w1 ⟨rfl, rfl⟩
      go_wp2_with fail
      go_ret2
      exact acc_no HW.out FB.out rfl
    · have CT := Lib.hid (memAdd_bad MM.out g at' hat2 a hw)
      have m1 := ahead_Add ⟨bm, 0, none⟩
      have m2 := method_Add ⟨bm, 0, none⟩
      clear hw MM
      go_wp2_with fail
      go_at_call 126
      refine CT.out.mono ?_
      rintro e w1 ⟨rfl, rfl⟩
      go_wp2_with fail
      go_ret2
      exact acc_no HW.out FB.out rfl
    · have CT := Lib.hid (fun V (hV : RBox w V X b N f A cap 21 k b' c v m' wh) => (memCas_bad (M0.out.only (F := []) (Only.of_below hV.x.b) (by simp) (by simp)) g at' hat2 a z hw).mono fun e w' hp => (⟨hp.1, Lib.hid hp.2, by rw [hp.2]; exact box7_only hV.x (F := []) ((Only.refl [] V).alloc _) (by simp)⟩ : e = .returned (.tuple #[.int .u64 0, .iface 108 (.pointer (some ⟨V.heap.size, 0, none⟩))]) ∧ Hid (w' = V.alloc (.cells #[.string memS, .int .i64 (badPlace at'), .iface 55 (.int .i64 2)] 112)) ∧ Box7 w' X 21 k b' c v m' wh))
      have m1 := ahead_Cas ⟨bm, 0, none⟩
      have m2 := method_Cas ⟨bm, 0, none⟩
      have RD : RBox w wc.drew X b N f A cap 21 k b' c v m' wh := R2.drew
      clear hw MM R2
      go_upto_region 11 with fail
      go_region_held3 (fun w' => w'.cell? ⟨X, 0, none⟩ = some (.int .i64 21) ∧ w'.cell? ⟨X, 1, none⟩ = some (.int .i64 k) ∧ w'.cell? ⟨X, 2, none⟩ = some (.int .i64 b') ∧ w'.cell? ⟨X, 3, none⟩ = some (.int .i64 c) ∧ w'.cell? ⟨X, 4, none⟩ = some (.int .u64 v) ∧ w'.cell? ⟨X, 5, none⟩ = some (.int .i64 m') ∧ w'.cell? ⟨X, 6, none⟩ = some (.int .i64 wh)) (go_keep)
        (first
          | (go_at_call 73; ((with_reducible refine (VL.out _ (by exact RD)).mono ?_); rintro e w1 ⟨rfl, R3⟩; obtain ⟨x0, x1, x2, x3, x4, x5, x6⟩ := R3.x.cells))
          | (go_at_call 127; ((with_reducible refine (CT.out _ (by exact R3)).mono ?_); rintro e w4 ⟨rfl, HE, x0, x1, x2, x3, x4, x5, x6⟩)))
      all_goals
        go_wp2_with fail
        go_ret2
        rw [HE.out]; exact acc_no HW.out R3.x.b rfl
  · have HW := Lib.hid hw
    rcases hc with rfl | rfl | rfl | rfl | rfl
    · have CT := Lib.hid (memLoad MM.out g hn0 hn at' hw)
      have m1 := ahead_Load ⟨bm, 0, none⟩
      have m2 := method_Load ⟨bm, 0, none⟩
      clear hw MM
      go_wp2_with fail
      go_at_call 40
      refine CT.out.mono ?_
      rintro e w1 ⟨rfl, hm, hoo⟩
      have HM := Lib.hid hm
      have HO := Lib.hid hoo
      clear hm hoo
      go_wp2_with fail
      go_ret2
      exact acc_ok HW.out FB.out (by rw [HU.out]; simp [accR]) (by rw [HY.out]; exact HM.out) HO.out
    · have CT := Lib.hid (memStore MM.out g hn0 hn at' a r0 r1 hw)
      have m1 := ahead_Store ⟨bm, 0, none⟩
      have m2 := method_Store ⟨bm, 0, none⟩
      clear hw MM
      go_wp2_with fail
      go_at_call 38
      refine CT.out.mono ?_
      rintro e w1 ⟨rfl, hm, hoo⟩
      have HM := Lib.hid hm
      have HO := Lib.hid hoo
      clear hm hoo
      go_wp2_with fail
      go_ret2
      exact acc_ok HW.out FB.out (by rw [HU.out]; simp [accR]) (by rw [HY.out]; exact HM.out) HO.out
    · have CT := Lib.hid (memSwap MM.out g hn0 hn at' a r0 r1 hw)
      have m1 := ahead_Swap ⟨bm, 0, none⟩
      have m2 := method_Swap ⟨bm, 0, none⟩
      clear hw MM
      go_wp2_with fail
      go_at_call 128
      refine CT.out.mono ?_
      rintro e w1 ⟨rfl, hm, hoo⟩
      have HM := Lib.hid hm
      have HO := Lib.hid hoo
      clear hm hoo
      go_wp2_with fail
      go_ret2
      exact acc_ok HW.out FB.out (by rw [HU.out]; simp [accR]) (by rw [HY.out]; exact HM.out) HO.out
    · have CT := Lib.hid (memAdd MM.out g hn0 hn at' a r0 r1 hw)
      have m1 := ahead_Add ⟨bm, 0, none⟩
      have m2 := method_Add ⟨bm, 0, none⟩
      clear hw MM
      go_wp2_with fail
      go_at_call 126
      refine CT.out.mono ?_
      rintro e w1 ⟨rfl, hm, hoo⟩
      have HM := Lib.hid hm
      have HO := Lib.hid hoo
      clear hm hoo
      go_wp2_with fail
      go_ret2
      exact acc_ok HW.out FB.out (by rw [HU.out]; simp [accR]) (by rw [HY.out]; exact HM.out) HO.out
    · have CT := Lib.hid (fun V (hV : RBox w V X b N f A cap 21 k b' c v m' wh) => (memCas (M0.out.only (F := []) (Only.of_below hV.x.b) (by simp) (by simp)) g hn0 hn at' a r0 r1 z z0 z1 hw).mono fun e w' hp => (⟨hp.1, Lib.hid hp.2, box7_only hV.x hp.2.2 (by have l1 := M0.out.top.lt; have l2 := M0.out.lt; have l3 := hV.x.x; simp; omega)⟩ : e = .returned (.tuple #[.int .u64 (m.hs.getD at' 0), .nilIface]) ∧ Hid (MemAt w' bm bc { ws := m.ws, hs := m.hs.set at' (casVal (widthAt m.ws at') (m.hs.getD at' 0) a z), n := m.n + 1 } t ∧ Only [bm, bc] V w') ∧ Box7 w' X 21 k b' c v m' wh))
      have m1 := ahead_Cas ⟨bm, 0, none⟩
      have m2 := method_Cas ⟨bm, 0, none⟩
      have RD : RBox w wc.drew X b N f A cap 21 k b' c v m' wh := R2.drew
      clear hw MM R2
      go_upto_region 11 with fail
      go_region_held3 (fun w' => w'.cell? ⟨X, 0, none⟩ = some (.int .i64 21) ∧ w'.cell? ⟨X, 1, none⟩ = some (.int .i64 k) ∧ w'.cell? ⟨X, 2, none⟩ = some (.int .i64 b') ∧ w'.cell? ⟨X, 3, none⟩ = some (.int .i64 c) ∧ w'.cell? ⟨X, 4, none⟩ = some (.int .u64 v) ∧ w'.cell? ⟨X, 5, none⟩ = some (.int .i64 m') ∧ w'.cell? ⟨X, 6, none⟩ = some (.int .i64 wh)) (go_keep)
        (first
          | (go_at_call 73; ((with_reducible refine (VL.out _ (by exact RD)).mono ?_); rintro e w1 ⟨rfl, R3⟩; obtain ⟨x0, x1, x2, x3, x4, x5, x6⟩ := R3.x.cells))
          | (go_at_call 127; ((with_reducible refine (CT.out _ (by exact R3)).mono ?_); rintro e w4 ⟨rfl, HE, x0, x1, x2, x3, x4, x5, x6⟩)))
      all_goals
        go_wp2_with fail
        go_ret2
        exact acc_ok HW.out R3.x.b (by rw [HU.out]; simp [accR]) (by rw [HY.out]; exact HE.out.1) HE.out.2
end Go.Proofs.YtobbmhboahognaaDoor
