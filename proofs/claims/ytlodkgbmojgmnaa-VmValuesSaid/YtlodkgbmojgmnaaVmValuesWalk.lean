/- The walk of VmValues: it returns true; of what was there nothing has turned. The conditions: the arguments' words are words; the registers' values lie there. -/
import Derived.Test.YtlodkgbmojgmnaaVmAwake
import Derived.Test.YtlodkgbmojgmnaaVmRef
import Derived.Test.YtlodkgbmojgmnaaVmArr
import Derived.Test.YtlodkgbmojgmnaaLawClose
import Derived.Deep.RegionHeld3
namespace Go.Proofs.Ytlodkgbmojgmnaa
open Go.RowKit
set_option linter.unusedVariables false
set_option linter.unusedSimpArgs false
set_option linter.unusedSimpArgs false

/-- The box of the instruction, the two frames. -/
structure VaAt (w W : World) (X b : Nat) (rs : List Int) (op a' b' c v m wh : Int) : Prop where
  x : IBox w W X op a' b' c v m wh
  f : FrameIn W b [] ⟨0, rs, []⟩ none 0
  g : FrameIn W (b + 1) [] ⟨0, rs, []⟩ none 0
theorem VaAt.below {w W W' : World} {X b : Nat} {rs : List Int} {op a' b' c v m wh : Int} (h : VaAt w W X b rs op a' b' c v m wh) (hb : Below W.heap.size W W') : VaAt w W' X b rs op a' b' c v m wh :=
  ⟨⟨h.x.r.below hb h.x.r.lt, h.x.b.trans (hb.mono h.x.b.size), h.x.x⟩, h.f.below hb, h.g.below hb⟩
theorem frame_range {W : World} {b : Nat} {N : List Nat} {f : Frm} {A : Option Addr} {cap : Nat} (h : FrameIn W b N f A cap) : W.rangeAt b 1 (f.r.map (Value.int .u64)) := fun j v hv => by
  have hj : j < f.r.length := by simpa using (List.getElem?_eq_some_iff.1 hv).1
  rw [h.reg j (by rw [← h.len]; exact hj), ← hv]
  simp [hj]
theorem info_arr : (Try.prog.info? 32).map (·.size) = some 32 := by kernel_rfl
theorem words_one (rs : List Int) : ∀ u ∈ rs.map (Value.int .u64), u.oneCell' = true := by
  intro u hu
  obtain ⟨z, _, rfl⟩ := List.mem_map.1 hu
  rfl

set_option maxHeartbeats 8000000 in
set_option maxRecDepth 100000 in
theorem vmValues_walk (op a' b' c v m wh : Int) (w0 : (Lit.int .i64 op).wf = true) (w1 : (Lit.int .i64 a').wf = true) (w2 : (Lit.int .i64 b').wf = true) (w3 : (Lit.int .i64 c).wf = true) (w4 : (Lit.int .u64 v).wf = true) (w5 : (Lit.int .i64 m).wf = true) (w6 : (Lit.int .i64 wh).wf = true)
    (w : World) (A : Option Addr) (cap : Nat) (zs : List Int) (hl : zs.length ≤ maxLen) (hI : IntsIn w .u64 A zs) (hw : ∀ z ∈ zs, (Lit.int .u64 z).wf = true) :
    Calls Try.prog 3 #[.agg #[.int .i64 op, .int .i64 a', .int .i64 b', .int .i64 c, .int .u64 v, .int .i64 m, .int .i64 wh], .slice A zs.length cap] w fun e w' => e = .returned (.bool true) ∧ Below w.heap.size w w' := by
  obtain ⟨v0, v1⟩ := u64_wf w4
  have hz : RegsOk zs := fun i => by
    by_cases h : i < zs.length
    · exact u64_mem hw i h
    · have : zs.getD i 0 = 0 := by simp [List.getD, List.getElem?_eq_none (show zs.length ≤ i by omega)]
      rw [this]; omega
  unfold maxLen at hl
  obtain ⟨W, hW⟩ : ∃ W, W = w.alloc (.cells #[.int .i64 op, .int .i64 a', .int .i64 b', .int .i64 c, .int .u64 v, .int .i64 m, .int .i64 wh] 24) := ⟨_, rfl⟩
  obtain ⟨X, hX⟩ : ∃ X, X = w.heap.size := ⟨_, rfl⟩
  have I0 := IBox.new w op a' b' c v m wh
  rw [← hW, ← hX] at I0
  have II := Lib.hid I0
  have FR := Lib.hid (frame_none A cap zs 0 [] W (by omega) (hI.below I0.b))
  have HZ := Lib.hid hz
  have HW := Lib.hid hW
  have HX := Lib.hid hX
  obtain ⟨L, hL⟩ : ∃ L, L = zs.length := ⟨_, rfl⟩
  rw [← hL] at FR ⊢
  clear w0 w1 w2 w3 w4 w5 w6 hl hI hw hz hW hX I0 hL
  go_enter Try.func3, Try.ntmps3
  go_upto_region 1 with fail
  rw [← HW.out, ← HX.out]
  go_wp2_with fail
  go_at_call 7
  refine FR.out.mono ?_
  rintro e V ⟨b, n, rfl, hb, hn, hf, hg, hbl⟩
  have V0 : VaAt w V X b (rgI zs n) op a' b' c v m wh := ⟨⟨II.out.r.below hbl II.out.r.lt, II.out.b.trans (hbl.mono II.out.b.size), II.out.x⟩, hf, hg⟩
  have hrl : (rgI zs n).length = 32 := rgI_length zs n
  have OK : FrmOk ⟨0, rgI zs n, []⟩ := ⟨fun i => (rgI_ok zs HZ.out n i).1, fun i => (rgI_ok zs HZ.out n i).2, by simp⟩
  obtain ⟨rs, hrs⟩ : ∃ rs, rs = rgI zs n := ⟨_, rfl⟩
  rw [← hrs] at V0 hrl OK
  have C1 := Lib.hid (fun U (h : VaAt w U X b rs op a' b' c v m wh) => (value_any h.f op a' b' c v m wh).mono fun e w' hp => (⟨hp.1, h.below hp.2⟩ : e = .returned (.int .u64 (valP ⟨0, rs, []⟩ ⟨op, a', b', c, v, m, wh⟩)) ∧ VaAt w w' X b rs op a' b' c v m wh))
  have C2 := Lib.hid (fun U (h : VaAt w U X b rs op a' b' c v m wh) => (rvalue_any h.g op a' b' c v m wh).mono fun e w' hp => (⟨hp.1, h.below hp.2⟩ : e = .returned (.int .u64 (valP ⟨0, rs, []⟩ ⟨op, a', b', c, v, m, wh⟩)) ∧ VaAt w w' X b rs op a' b' c v m wh))
  have C3 := Lib.hid (fun U (h : VaAt w U X b rs op a' b' c v m wh) => (address_any h.f OK op a' b' c v m wh v0 v1).mono fun e w' hp => (⟨hp.1, h.below hp.2⟩ : e = .returned (.int .u64 (addrP ⟨0, rs, []⟩ ⟨op, a', b', c, v, m, wh⟩)) ∧ VaAt w w' X b rs op a' b' c v m wh))
  have C4 := Lib.hid (fun U (h : VaAt w U X b rs op a' b' c v m wh) => (raddress_any h.g op a' b' c v m wh v0 v1).mono fun e w' hp => (⟨hp.1, h.below hp.2⟩ : e = .returned (.int .u64 (addrP ⟨0, rs, []⟩ ⟨op, a', b', c, v, m, wh⟩)) ∧ VaAt w w' X b rs op a' b' c v m wh))
  have C5 := Lib.hid (fun U (h : VaAt w U X b rs op a' b' c v m wh) => (vawake_any U).mono fun e w' hp => (⟨hp.1, h.below hp.2⟩ : e = .returned (.bool true) ∧ VaAt w w' X b rs op a' b' c v m wh))
  generalize valP ⟨0, rs, []⟩ ⟨op, a', b', c, v, m, wh⟩ = y at C1 C2
  generalize addrP ⟨0, rs, []⟩ ⟨op, a', b', c, v, m, wh⟩ = z at C3 C4
  have qa := arr_eq rs hrl
  have ga := frame_range V0.f
  have gb := frame_range V0.g
  simp only at ga gb
  obtain ⟨cs, hcs⟩ : ∃ cs, cs = rs.map (Value.int .u64) := ⟨_, rfl⟩
  rw [← hcs] at ga gb qa
  have hca : cs.length = 32 := by rw [hcs, List.length_map, hrl]
  have hc1 : ∀ u ∈ cs, u.oneCell' = true := by rw [hcs]; exact words_one rs
  have hu := Try.underlying32
  have hi : (Try.prog.info? 32).map (·.size) = some cs.length := by rw [hca]; exact info_arr
  have FS := Lib.hid (fun U (h : VaAt w U X b rs op a' b' c v m wh) => (by
    have h1 := frame_range h.f
    have h2 := frame_range h.g
    simp only at h1 h2
    rw [← hcs] at h1 h2
    exact ⟨h.x.cells, h1, h2⟩ : (U.cell? ⟨X, 0, none⟩ = some (.int .i64 op) ∧ U.cell? ⟨X, 1, none⟩ = some (.int .i64 a') ∧ U.cell? ⟨X, 2, none⟩ = some (.int .i64 b') ∧ U.cell? ⟨X, 3, none⟩ = some (.int .i64 c) ∧ U.cell? ⟨X, 4, none⟩ = some (.int .u64 v) ∧ U.cell? ⟨X, 5, none⟩ = some (.int .i64 m) ∧ U.cell? ⟨X, 6, none⟩ = some (.int .i64 wh)) ∧ U.rangeAt b 1 cs ∧ U.rangeAt (b + 1) 1 cs))
  obtain ⟨x0, x1, x2, x3, x4, x5, x6⟩ := V0.x.cells
  have VD : VaAt w V.drew X b rs op a' b' c v m wh := V0.below (Below.refl _ _).drew
  clear hb hn hf hg hbl II FR HZ HW HX hrs hrl OK hcs V0 v0 v1
  go_upto_region 2 with fail
  refine wp_region_noPanic ?_
  refine wp_region_held_drew (S := (fun w' => w'.cell? ⟨X, 0, none⟩ = some (.int .i64 op) ∧ w'.cell? ⟨X, 1, none⟩ = some (.int .i64 a') ∧ w'.cell? ⟨X, 2, none⟩ = some (.int .i64 b') ∧ w'.cell? ⟨X, 3, none⟩ = some (.int .i64 c) ∧ w'.cell? ⟨X, 4, none⟩ = some (.int .u64 v) ∧ w'.cell? ⟨X, 5, none⟩ = some (.int .i64 m) ∧ w'.cell? ⟨X, 6, none⟩ = some (.int .i64 wh) ∧ w'.rangeAt b 1 cs ∧ w'.rangeAt (b + 1) 1 cs)) (by kernel_rfl) (by exact ⟨x0, x1, x2, x3, x4, x5, x6, ga, gb⟩) (fun hHeld => ?_)
  refine wpAnyH_take (i := 0) (oi := { dst := some 12, op := Op.move (Operand.tmp 5), type := 26, pos := "law.go:100", after := #[], guard := none }) (v := ?_) rfl (by kernel_rfl) (by kernel_rfl) (by kernel_rfl) (fun _ _ _ h => h) (Or.inl ⟨by rfl, ?_⟩) (by assumption) ?_
  rotate_left 1
  · intro w hSw
    (try dsimp only at hSw)
    (go_simp) <;> (with_reducible rfl)
  try simp only [Act.put, List.setIfInBounds_toArray, List.set_cons_zero, List.set_cons_succ]
  refine wpAnyH_take (i := 1) (oi := { dst := some 13, op := Op.load 24 (Operand.tmp 2), type := 24, pos := "law.go:100", after := #[], guard := none }) (v := ?_) rfl (by kernel_rfl) (by kernel_rfl) (by kernel_rfl) (fun _ _ _ h => h) (Or.inl ⟨by rfl, ?_⟩) (by assumption) ?_
  rotate_left 1
  · intro w hSw
    (try dsimp only at hSw)
    (go_simp) <;> (with_reducible rfl)
  try simp only [Act.put, List.setIfInBounds_toArray, List.set_cons_zero, List.set_cons_succ]
  refine wpAnyH_take (i := 3) (oi := { dst := some 15, op := Op.move (Operand.tmp 6), type := 27, pos := "law.go:100", after := #[], guard := none }) (v := ?_) rfl (by kernel_rfl) (by kernel_rfl) (by kernel_rfl) (fun _ _ _ h => h) (Or.inl ⟨by rfl, ?_⟩) (by assumption) ?_
  rotate_left 1
  · intro w hSw
    (try dsimp only at hSw)
    (go_simp) <;> (with_reducible rfl)
  try simp only [Act.put, List.setIfInBounds_toArray, List.set_cons_zero, List.set_cons_succ]
  refine wpAnyH_take (i := 4) (oi := { dst := some 16, op := Op.load 24 (Operand.tmp 2), type := 24, pos := "law.go:100", after := #[], guard := none }) (v := ?_) rfl (by kernel_rfl) (by kernel_rfl) (by kernel_rfl) (fun _ _ _ h => h) (Or.inl ⟨by rfl, ?_⟩) (by assumption) ?_
  rotate_left 1
  · intro w hSw
    (try dsimp only at hSw)
    (go_simp) <;> (with_reducible rfl)
  try simp only [Act.put, List.setIfInBounds_toArray, List.set_cons_zero, List.set_cons_succ]
  refine wpAnyH_ready (rs := [2]) (by kernel_rfl) (by simp) ?_
  refine AllReadyH.cons (o := { dst := some 14, op := Op.call { callee := Callee.value (Operand.func 8), args := #[Operand.tmp 12, Operand.tmp 13], argTypes := #[26, 24] }, type := 22, pos := "law.go:100", after := #[{ on := 0, ground := Ground.data }, { on := 1, ground := Ground.data }], guard := none }) rfl (fun K hK => ?_) AllReadyH.nil
  go_simp
  go_at_call 8
  refine (C1.out _ VD).mono ?_
  clear VD x0 x1 x2 x3 x4 x5 x6 ga gb hHeld
  rintro e U2 ⟨rfl, VD⟩
  obtain ⟨⟨x0, x1, x2, x3, x4, x5, x6⟩, ga, gb⟩ := FS.out _ VD
  refine hK.out _ _ (by exact ⟨x0, x1, x2, x3, x4, x5, x6, ga, gb⟩) (fun hHeld => ?_)
  clear hK K
  try simp only [Act.put, List.setIfInBounds_toArray, List.set_cons_zero, List.set_cons_succ]
  refine wpAnyH_ready (rs := [5]) (by kernel_rfl) (by simp) ?_
  refine AllReadyH.cons (o := { dst := some 17, op := Op.call { callee := Callee.value (Operand.func 9), args := #[Operand.tmp 15, Operand.tmp 16], argTypes := #[27, 24] }, type := 22, pos := "law.go:100", after := #[{ on := 3, ground := Ground.data }, { on := 4, ground := Ground.data }, { on := 2, ground := Ground.chain }], guard := none }) rfl (fun K hK => ?_) AllReadyH.nil
  go_simp
  go_at_call 9
  refine (C2.out _ VD).mono ?_
  clear VD x0 x1 x2 x3 x4 x5 x6 ga gb hHeld
  rintro e U5 ⟨rfl, VD⟩
  obtain ⟨⟨x0, x1, x2, x3, x4, x5, x6⟩, ga, gb⟩ := FS.out _ VD
  refine hK.out _ _ (by exact ⟨x0, x1, x2, x3, x4, x5, x6, ga, gb⟩) (fun hHeld => ?_)
  clear hK K
  try simp only [Act.put, List.setIfInBounds_toArray, List.set_cons_zero, List.set_cons_succ]
  refine wpAnyH_take (i := 6) (oi := { dst := some 18, op := Op.binOp BinOp.eql 22 (Operand.tmp 14) (Operand.tmp 17) 22, type := 4, pos := "law.go:100", after := #[{ on := 2, ground := Ground.data }, { on := 5, ground := Ground.data }], guard := none }) (v := ?_) rfl (by kernel_rfl) (by kernel_rfl) (by kernel_rfl) (fun _ _ _ h => h) (Or.inl ⟨by rfl, ?_⟩) (by assumption) ?_
  rotate_left 1
  · intro w hSw
    (try dsimp only at hSw)
    (go_simp) <;> (with_reducible rfl)
  try simp only [Act.put, List.setIfInBounds_toArray, List.set_cons_zero, List.set_cons_succ]
  refine wpAnyH_take (i := 7) (oi := { dst := some 19, op := Op.move (Operand.tmp 18), type := 4, pos := "law.go:100", after := #[{ on := 6, ground := Ground.data }, { on := 5, ground := Ground.chain }], guard := none }) (v := ?_) rfl (by kernel_rfl) (by kernel_rfl) (by kernel_rfl) (fun _ _ _ h => h) (Or.inl ⟨by rfl, ?_⟩) (by assumption) ?_
  rotate_left 1
  · intro w hSw
    (try dsimp only at hSw)
    (go_simp) <;> (with_reducible rfl)
  try simp only [Act.put, List.setIfInBounds_toArray, List.set_cons_zero, List.set_cons_succ]
  refine wpAnyH_take (i := 8) (oi := { dst := some 20, op := Op.move (Operand.tmp 5), type := 26, pos := "law.go:100", after := #[{ on := 7, ground := Ground.guard }], guard := some (7, true) }) (v := ?_) rfl (by kernel_rfl) (by kernel_rfl) (by kernel_rfl) (fun _ _ _ h => h) (Or.inl ⟨by rfl, ?_⟩) (by assumption) ?_
  rotate_left 1
  · intro w hSw
    (try dsimp only at hSw)
    (go_simp) <;> (with_reducible rfl)
  try simp only [Act.put, List.setIfInBounds_toArray, List.set_cons_zero, List.set_cons_succ]
  refine wpAnyH_take (i := 9) (oi := { dst := some 21, op := Op.load 24 (Operand.tmp 2), type := 24, pos := "law.go:100", after := #[{ on := 7, ground := Ground.guard }], guard := some (7, true) }) (v := ?_) rfl (by kernel_rfl) (by kernel_rfl) (by kernel_rfl) (fun _ _ _ h => h) (Or.inl ⟨by rfl, ?_⟩) (by assumption) ?_
  rotate_left 1
  · intro w hSw
    (try dsimp only at hSw)
    (go_simp) <;> (with_reducible rfl)
  try simp only [Act.put, List.setIfInBounds_toArray, List.set_cons_zero, List.set_cons_succ]
  refine wpAnyH_take (i := 11) (oi := { dst := some 23, op := Op.move (Operand.tmp 6), type := 27, pos := "law.go:100", after := #[{ on := 7, ground := Ground.guard }], guard := some (7, true) }) (v := ?_) rfl (by kernel_rfl) (by kernel_rfl) (by kernel_rfl) (fun _ _ _ h => h) (Or.inl ⟨by rfl, ?_⟩) (by assumption) ?_
  rotate_left 1
  · intro w hSw
    (try dsimp only at hSw)
    (go_simp) <;> (with_reducible rfl)
  try simp only [Act.put, List.setIfInBounds_toArray, List.set_cons_zero, List.set_cons_succ]
  refine wpAnyH_take (i := 12) (oi := { dst := some 24, op := Op.load 24 (Operand.tmp 2), type := 24, pos := "law.go:100", after := #[{ on := 7, ground := Ground.guard }], guard := some (7, true) }) (v := ?_) rfl (by kernel_rfl) (by kernel_rfl) (by kernel_rfl) (fun _ _ _ h => h) (Or.inl ⟨by rfl, ?_⟩) (by assumption) ?_
  rotate_left 1
  · intro w hSw
    (try dsimp only at hSw)
    (go_simp) <;> (with_reducible rfl)
  try simp only [Act.put, List.setIfInBounds_toArray, List.set_cons_zero, List.set_cons_succ]
  refine wpAnyH_ready (rs := [10]) (by kernel_rfl) (by simp) ?_
  refine AllReadyH.cons (o := { dst := some 22, op := Op.call { callee := Callee.value (Operand.func 10), args := #[Operand.tmp 20, Operand.tmp 21], argTypes := #[26, 24] }, type := 22, pos := "law.go:100", after := #[{ on := 8, ground := Ground.data }, { on := 9, ground := Ground.data }, { on := 7, ground := Ground.chain }, { on := 7, ground := Ground.guard }], guard := some (7, true) }) rfl (fun K hK => ?_) AllReadyH.nil
  go_simp
  go_at_call 10
  refine (C3.out _ VD).mono ?_
  clear VD x0 x1 x2 x3 x4 x5 x6 ga gb hHeld
  rintro e U10 ⟨rfl, VD⟩
  obtain ⟨⟨x0, x1, x2, x3, x4, x5, x6⟩, ga, gb⟩ := FS.out _ VD
  refine hK.out _ _ (by exact ⟨x0, x1, x2, x3, x4, x5, x6, ga, gb⟩) (fun hHeld => ?_)
  clear hK K
  try simp only [Act.put, List.setIfInBounds_toArray, List.set_cons_zero, List.set_cons_succ]
  refine wpAnyH_ready (rs := [13]) (by kernel_rfl) (by simp) ?_
  refine AllReadyH.cons (o := { dst := some 25, op := Op.call { callee := Callee.value (Operand.func 11), args := #[Operand.tmp 23, Operand.tmp 24], argTypes := #[27, 24] }, type := 22, pos := "law.go:100", after := #[{ on := 11, ground := Ground.data }, { on := 12, ground := Ground.data }, { on := 10, ground := Ground.chain }, { on := 7, ground := Ground.guard }], guard := some (7, true) }) rfl (fun K hK => ?_) AllReadyH.nil
  go_simp
  go_at_call 11
  refine (C4.out _ VD).mono ?_
  clear VD x0 x1 x2 x3 x4 x5 x6 ga gb hHeld
  rintro e U13 ⟨rfl, VD⟩
  obtain ⟨⟨x0, x1, x2, x3, x4, x5, x6⟩, ga, gb⟩ := FS.out _ VD
  refine hK.out _ _ (by exact ⟨x0, x1, x2, x3, x4, x5, x6, ga, gb⟩) (fun hHeld => ?_)
  clear hK K
  try simp only [Act.put, List.setIfInBounds_toArray, List.set_cons_zero, List.set_cons_succ]
  refine wpAnyH_take (i := 14) (oi := { dst := some 26, op := Op.binOp BinOp.eql 22 (Operand.tmp 22) (Operand.tmp 25) 22, type := 4, pos := "law.go:100", after := #[{ on := 10, ground := Ground.data }, { on := 13, ground := Ground.data }, { on := 7, ground := Ground.guard }], guard := some (7, true) }) (v := ?_) rfl (by kernel_rfl) (by kernel_rfl) (by kernel_rfl) (fun _ _ _ h => h) (Or.inl ⟨by rfl, ?_⟩) (by assumption) ?_
  rotate_left 1
  · intro w hSw
    (try dsimp only at hSw)
    (go_simp) <;> (with_reducible rfl)
  try simp only [Act.put, List.setIfInBounds_toArray, List.set_cons_zero, List.set_cons_succ]
  refine wpAnyH_take (i := 15) (oi := { dst := some 27, op := Op.pick (Operand.tmp 19) (Operand.tmp 26) (Operand.const (Value.bool false)), type := 4, pos := "law.go:100", after := #[{ on := 7, ground := Ground.data }, { on := 14, ground := Ground.data }], guard := none }) (v := ?_) rfl (by kernel_rfl) (by kernel_rfl) (by kernel_rfl) (fun _ _ _ h => h) (Or.inl ⟨by rfl, ?_⟩) (by assumption) ?_
  rotate_left 1
  · intro w hSw
    (try dsimp only at hSw)
    (go_simp) <;> (with_reducible rfl)
  try simp only [Act.put, List.setIfInBounds_toArray, List.set_cons_zero, List.set_cons_succ]
  refine wpAnyH_take (i := 16) (oi := { dst := some 28, op := Op.move (Operand.tmp 27), type := 4, pos := "law.go:100", after := #[{ on := 15, ground := Ground.data }, { on := 13, ground := Ground.chain }], guard := none }) (v := ?_) rfl (by kernel_rfl) (by kernel_rfl) (by kernel_rfl) (fun _ _ _ h => h) (Or.inl ⟨by rfl, ?_⟩) (by assumption) ?_
  rotate_left 1
  · intro w hSw
    (try dsimp only at hSw)
    (go_simp) <;> (with_reducible rfl)
  try simp only [Act.put, List.setIfInBounds_toArray, List.set_cons_zero, List.set_cons_succ]
  refine wpAnyH_take (i := 17) (oi := { dst := some 29, op := Op.move (Operand.tmp 5), type := 26, pos := "law.go:100", after := #[{ on := 16, ground := Ground.guard }], guard := some (16, true) }) (v := ?_) rfl (by kernel_rfl) (by kernel_rfl) (by kernel_rfl) (fun _ _ _ h => h) (Or.inl ⟨by rfl, ?_⟩) (by assumption) ?_
  rotate_left 1
  · intro w hSw
    (try dsimp only at hSw)
    (go_simp) <;> (with_reducible rfl)
  try simp only [Act.put, List.setIfInBounds_toArray, List.set_cons_zero, List.set_cons_succ]
  refine wpAnyH_take (i := 18) (oi := { dst := some 30, op := Op.nilCheck (Operand.tmp 29), type := 0, pos := "law.go:100", after := #[{ on := 17, ground := Ground.data }, { on := 16, ground := Ground.guard }], guard := some (16, true) }) (v := ?_) rfl (by kernel_rfl) (by kernel_rfl) (by kernel_rfl) (fun _ _ _ h => h) (Or.inl ⟨by rfl, ?_⟩) (by assumption) ?_
  rotate_left 1
  · intro w hSw
    (try dsimp only at hSw)
    (go_simp) <;> (with_reducible rfl)
  try simp only [Act.put, List.setIfInBounds_toArray, List.set_cons_zero, List.set_cons_succ]
  refine wpAnyH_take (i := 19) (oi := { dst := some 31, op := Op.fieldAddr 35 (Operand.tmp 30) 1, type := 0, pos := "law.go:100", after := #[{ on := 18, ground := Ground.data }, { on := 16, ground := Ground.guard }], guard := some (16, true) }) (v := ?_) rfl (by kernel_rfl) (by kernel_rfl) (by kernel_rfl) (fun _ _ _ h => h) (Or.inl ⟨by rfl, ?_⟩) (by assumption) ?_
  rotate_left 1
  · intro w hSw
    (try dsimp only at hSw)
    (go_simp) <;> (with_reducible rfl)
  try simp only [Act.put, List.setIfInBounds_toArray, List.set_cons_zero, List.set_cons_succ]
  refine wpAnyH_take (i := 20) (oi := { dst := some 32, op := Op.load 32 (Operand.tmp 31), type := 32, pos := "law.go:100", after := #[{ on := 19, ground := Ground.data }, { on := 16, ground := Ground.guard }], guard := some (16, true) }) (v := .agg cs.toArray) rfl (by kernel_rfl) (by kernel_rfl) (by kernel_rfl) (fun _ _ _ h => h) (yieldsIf_load_mid (by rfl) _ _ rfl _ _ rfl cs _ (fun w hSw => hSw.2.2.2.2.2.2.2.1) hu rfl hi) (by assumption) ?_
  simp only [List.getElem_toArray, List.getElem_cons_succ, List.getElem_cons_zero, Act.put, List.setIfInBounds_toArray, List.set_cons_zero, List.set_cons_succ]
  refine wpAnyH_take (i := 21) (oi := { dst := some 33, op := Op.move (Operand.tmp 6), type := 27, pos := "law.go:100", after := #[{ on := 16, ground := Ground.guard }], guard := some (16, true) }) (v := ?_) rfl (by kernel_rfl) (by kernel_rfl) (by kernel_rfl) (fun _ _ _ h => h) (Or.inl ⟨by rfl, ?_⟩) (by assumption) ?_
  rotate_left 1
  · intro w hSw
    (try dsimp only at hSw)
    (go_simp) <;> (with_reducible rfl)
  try simp only [Act.put, List.setIfInBounds_toArray, List.set_cons_zero, List.set_cons_succ]
  refine wpAnyH_take (i := 22) (oi := { dst := some 34, op := Op.nilCheck (Operand.tmp 33), type := 0, pos := "law.go:100", after := #[{ on := 21, ground := Ground.data }, { on := 16, ground := Ground.guard }], guard := some (16, true) }) (v := ?_) rfl (by kernel_rfl) (by kernel_rfl) (by kernel_rfl) (fun _ _ _ h => h) (Or.inl ⟨by rfl, ?_⟩) (by assumption) ?_
  rotate_left 1
  · intro w hSw
    (try dsimp only at hSw)
    (go_simp) <;> (with_reducible rfl)
  try simp only [Act.put, List.setIfInBounds_toArray, List.set_cons_zero, List.set_cons_succ]
  refine wpAnyH_take (i := 23) (oi := { dst := some 35, op := Op.fieldAddr 36 (Operand.tmp 34) 1, type := 0, pos := "law.go:100", after := #[{ on := 22, ground := Ground.data }, { on := 16, ground := Ground.guard }], guard := some (16, true) }) (v := ?_) rfl (by kernel_rfl) (by kernel_rfl) (by kernel_rfl) (fun _ _ _ h => h) (Or.inl ⟨by rfl, ?_⟩) (by assumption) ?_
  rotate_left 1
  · intro w hSw
    (try dsimp only at hSw)
    (go_simp) <;> (with_reducible rfl)
  try simp only [Act.put, List.setIfInBounds_toArray, List.set_cons_zero, List.set_cons_succ]
  refine wpAnyH_take (i := 24) (oi := { dst := some 36, op := Op.load 32 (Operand.tmp 35), type := 32, pos := "law.go:100", after := #[{ on := 23, ground := Ground.data }, { on := 16, ground := Ground.guard }], guard := some (16, true) }) (v := .agg cs.toArray) rfl (by kernel_rfl) (by kernel_rfl) (by kernel_rfl) (fun _ _ _ h => h) (yieldsIf_load_mid (by rfl) _ _ rfl _ _ rfl cs _ (fun w hSw => hSw.2.2.2.2.2.2.2.2) hu rfl hi) (by assumption) ?_
  simp only [List.getElem_toArray, List.getElem_cons_succ, List.getElem_cons_zero, Act.put, List.setIfInBounds_toArray, List.set_cons_zero, List.set_cons_succ]
  refine wpAnyH_take (i := 25) (oi := { dst := some 37, op := Op.binOp BinOp.eql 32 (Operand.tmp 32) (Operand.tmp 36) 32, type := 4, pos := "law.go:100", after := #[{ on := 20, ground := Ground.data }, { on := 24, ground := Ground.data }, { on := 16, ground := Ground.guard }], guard := some (16, true) }) (v := ?_) rfl (by kernel_rfl) (by kernel_rfl) (by kernel_rfl) (fun _ _ _ h => h) (Or.inl ⟨by rfl, ?_⟩) (by assumption) ?_
  rotate_left 1
  · intro w hSw
    (try dsimp only at hSw)
    (go_simp) <;> (with_reducible rfl)
  try simp only [Act.put, List.setIfInBounds_toArray, List.set_cons_zero, List.set_cons_succ]
  refine wpAnyH_take (i := 26) (oi := { dst := some 38, op := Op.pick (Operand.tmp 28) (Operand.tmp 37) (Operand.const (Value.bool false)), type := 4, pos := "law.go:100", after := #[{ on := 16, ground := Ground.data }, { on := 25, ground := Ground.data }], guard := none }) (v := ?_) rfl (by kernel_rfl) (by kernel_rfl) (by kernel_rfl) (fun _ _ _ h => h) (Or.inl ⟨by rfl, ?_⟩) (by assumption) ?_
  rotate_left 1
  · intro w hSw
    (try dsimp only at hSw)
    (go_simp) <;> (with_reducible rfl)
  try simp only [Act.put, List.setIfInBounds_toArray, List.set_cons_zero, List.set_cons_succ]
  refine wpAnyH_take (i := 27) (oi := { dst := some 39, op := Op.move (Operand.tmp 38), type := 4, pos := "law.go:100", after := #[{ on := 26, ground := Ground.data }, { on := 16, ground := Ground.chain }], guard := none }) (v := ?_) rfl (by kernel_rfl) (by kernel_rfl) (by kernel_rfl) (fun _ _ _ h => h) (Or.inl ⟨by rfl, ?_⟩) (by assumption) ?_
  rotate_left 1
  · intro w hSw
    (try dsimp only at hSw)
    (go_simp) <;> (with_reducible rfl)
  try simp only [Act.put, List.setIfInBounds_toArray, List.set_cons_zero, List.set_cons_succ]
  refine wpAnyH_ready (rs := [28]) (by kernel_rfl) (by simp) ?_
  refine AllReadyH.cons (o := { dst := some 40, op := Op.call { callee := Callee.value (Operand.func 12), args := #[], argTypes := #[] }, type := 4, pos := "law.go:100", after := #[{ on := 27, ground := Ground.chain }, { on := 27, ground := Ground.guard }], guard := some (27, true) }) rfl (fun K hK => ?_) AllReadyH.nil
  go_simp
  go_at_call 12
  refine (C5.out _ VD).mono ?_
  clear VD x0 x1 x2 x3 x4 x5 x6 ga gb hHeld
  rintro e U28 ⟨rfl, VD⟩
  obtain ⟨⟨x0, x1, x2, x3, x4, x5, x6⟩, ga, gb⟩ := FS.out _ VD
  refine hK.out _ _ (by exact ⟨x0, x1, x2, x3, x4, x5, x6, ga, gb⟩) (fun hHeld => ?_)
  clear hK K
  try simp only [Act.put, List.setIfInBounds_toArray, List.set_cons_zero, List.set_cons_succ]
  refine wpAnyH_take (i := 29) (oi := { dst := some 41, op := Op.pick (Operand.tmp 39) (Operand.tmp 40) (Operand.const (Value.bool false)), type := 4, pos := "law.go:100", after := #[{ on := 27, ground := Ground.data }, { on := 28, ground := Ground.data }], guard := none }) (v := ?_) rfl (by kernel_rfl) (by kernel_rfl) (by kernel_rfl) (fun _ _ _ h => h) (Or.inl ⟨by rfl, ?_⟩) (by assumption) ?_
  rotate_left 1
  · intro w hSw
    (try dsimp only at hSw)
    (go_simp) <;> (with_reducible rfl)
  try simp only [Act.put, List.setIfInBounds_toArray, List.set_cons_zero, List.set_cons_succ]
  refine wpAnyH_take (i := 30) (oi := { dst := some 4, op := Op.assign (Operand.tmp 41), type := 4, pos := "law.go:100", after := _, guard := none }) (v := ?_) rfl (by kernel_rfl) (by kernel_rfl) (by kernel_rfl) (fun _ _ _ h => h) (Or.inl ⟨by rfl, ?_⟩) (by assumption) ?_
  rotate_left 1
  · intro w hSw
    (try dsimp only at hSw)
    (go_simp) <;> (with_reducible rfl)
  try simp only [Act.put, List.setIfInBounds_toArray, List.set_cons_zero, List.set_cons_succ]
  refine wpAnyH_done (by kernel_rfl) ?_ _
  refine NoPanic.normal ?_
  have HB := Lib.hid VD.x.b
  clear VD x0 x1 x2 x3 x4 x5 x6 ga gb hHeld
  go_wp2_with fail
  go_ret
  exact ⟨rfl, HB.out⟩
end Go.Proofs.Ytlodkgbmojgmnaa
