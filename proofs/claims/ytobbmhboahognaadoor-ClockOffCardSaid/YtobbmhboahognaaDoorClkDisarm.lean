/- The clock's Disarm of an armed id (layer 8). The condition: it was not used too often. -/
import Derived.Test.YtobbmhboahognaaDoorClkErr
namespace Go.Proofs.YtobbmhboahognaaDoor
open Go.RowKit
set_option linter.unusedVariables false

set_option maxHeartbeats 4000000 in
set_option maxRecDepth 100000 in
theorem clkDisarm_yes {W : World} {F : List Nat} {b : Nat} {now : Int} {A B : List Itm} {y : Itm} {last m : Nat} (h : ClockAt W F b now (A ++ y :: B) last m) (hm : m ≤ 4000) :
    Calls Tryd.prog 22 #[.pointer (some ⟨b, 0, none⟩), .int .u64 y.w] W fun e w' => e = .returned (.bool true) ∧ ∃ F', CLed W F b w' F' now (A ++ B) last m := by
  obtain ⟨qb, mb, N, mc, v, c, cc, k, rfl, hP, hwd, hwf, hk, hlast, hcc, hc⟩ := h
  have hid := hwf y (by simp)
  have hf := fOf_mem hwd (x := y) (by simp)
  have lk := hP.al.look y.w hid
  rw [hf] at lk
  have lk' : (Instr.lookup 120 (.map (some mc)) (.int .u64 y.w) true).run Tryd.prog W = .ok (.tuple #[.agg #[.int .i64 y.h, .int .u64 y.d], .bool true]) W := lk
  have c1 := hP.c1
  have c2 := hP.c2
  have hbl := hP.row.lt
  have hsome : (fOf (A ++ y :: B) y.w).isSome = true := by rw [hf]; rfl
  have DROP := Lib.hid (fun W1 (hb : Below W.heap.size W W1) => dropS_yes (hP.heap.below hb) y.h rfl (by omega) (by omega) (by unfold maxLen; omega))
  have NEXT := Lib.hid (fun W1 W2 v' W3 (hb : Below W.heap.size W W1) (l : Led W1 qb mb N v W2 v' (c + 2 * (A ++ y :: B).length + 1) (A ++ B) last) (ha : AlIs W3 mc cc ((A ++ y :: B).length - 1) (adel (fOf (A ++ y :: B)) y.w)) (hg : W2.grownBy W3 (some mc)) => (show ∃ F', CLed W (clkF b qb mb mc v) b W3 F' now (A ++ B) last m by
    have h1 := hP.only (Only.of_below (F := []) hb) (by simp)
    have h2 := h1.step l
    have h3 := h2.mapped (grown_only hg) ha
    have e := fOf_del hwd
    have el : (A ++ y :: B).length - 1 = (A ++ B).length := by simp
    refine ⟨clkF b qb mb mc v', ⟨qb, mb, N, mc, v', c + 2 * (A ++ y :: B).length + 1, cc, k + 1, rfl, ?_, hwd.del, fun x hx => hwf x ?_, ?_, by omega, by omega, by omega⟩, ?_, ?_⟩
    · rw [e, ← el]; exact h3
    · rcases List.mem_append.1 hx with h | h
      · simp [h]
      · simp [h]
    · simp at hk ⊢; omega
    · intro j hj
      rcases clk_jump (b := b) (mc := mc) l j hj with h | h
      · exact .inl h
      · exact .inr (Nat.le_trans hb.size h)
    · exact ((Only.of_below hb).trans (clk_only l)).trans ((grown_only hg).mono (by simp))))
  have AL := Lib.hid hP
  have HID := Lib.hid hid
  have HS := Lib.hid hsome
  have hb0 : Below W.heap.size W (W.alloc (.cells #[.int .i64 y.h, .int .u64 y.d] 124)) := (Below.refl _ _).alloc (Nat.le_refl _) _
  have ROW := Lib.hid (Row.new W [.int .i64 y.h, .int .u64 y.d] 124)
  have hlt := hP.lt
  have HX := Lib.hid (show ∀ k, k ∈ qb :: mb :: v.ownBlock.toList → k ≠ W.heap.size from fun k hk e => by
    have := hlt k (by simp only [List.mem_cons] at *; exact .inr (.inr hk)); omega)
  clear hP hwd hwf hk hlast hcc hc lk hf hid hsome hlt
  go_enter Tryd.func22, Tryd.ntmps22
  go_upto_region 3 with fail
  have c1 : (W.alloc (.cells #[.int .i64 y.h, .int .u64 y.d] 124)).cell? ⟨b, 1, none⟩ = some (.pointer (some ⟨qb, 0, none⟩)) := (hb0.cell (p := ⟨b, 1, none⟩) hbl).trans c1
  have c2 : (W.alloc (.cells #[.int .i64 y.h, .int .u64 y.d] 124)).cell? ⟨b, 2, none⟩ = some (.map (some mc)) := (hb0.cell (p := ⟨b, 2, none⟩) hbl).trans c2
  have R1 := ROW.out
  have c3 : (W.alloc (.cells #[.int .i64 y.h, .int .u64 y.d] 124)).cell? ⟨W.heap.size, 0, none⟩ = some (.int .i64 y.h) := R1.cell 0 (by simp)
  obtain ⟨X, hX⟩ : ∃ X, X = W.heap.size := ⟨_, rfl⟩
  rw [← hX] at c3 R1 HX ⊢
  have hXl := R1.lt
  generalize (W.alloc (.cells #[.int .i64 y.h, .int .u64 y.d] 124)) = W1 at hb0 c1 c2 c3 R1 hXl ⊢
  have HB0 := Lib.hid hb0.drew
  clear hb0 R1 hX ROW
  go_region_held3 (fun w' => w'.cell? ⟨b, 1, none⟩ = some (.pointer (some ⟨qb, 0, none⟩)) ∧ w'.cell? ⟨X, 0, none⟩ = some (.int .i64 y.h)) (go_keep)
    (first
      | (go_at_call 55; ((with_reducible refine (DROP.out _ HB0.out).mono ?_); rintro e w2 ⟨rfl, v', l⟩; have P2 := Lib.hid ((AL.out.only (Only.of_below (F := []) HB0.out) (by simp)).step l); have d1 := P2.out.c1; have d2 := P2.out.c2; have d3 : w2.cell? ⟨X, 0, none⟩ = some (.int .i64 y.h) := (World.cell?_of_block (w := W1) (a := ⟨X, 0, none⟩) (l.only.block X hXl (fun hk => HX.out X hk rfl))).trans c3)))
  all_goals
    go_wp2_with (at_delete; refine wpList_delete_al rfl _ _ rfl rfl P2.out.al _ HID.out HS.out rfl ?_; intro w3 ha hg hs)
    go_ret
    exact ⟨rfl, NEXT.out _ _ _ _ HB0.out l ha hg⟩
end Go.Proofs.YtobbmhboahognaaDoor
