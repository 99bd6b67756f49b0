/- The clock's Arm (layer 8), where the id becomes armed. The conditions: the clock was not used too often; the id is a word, not 0, not armed; the deadline is not Forever. -/
import Derived.Test.YtobbmhboahognaaDoorClkCalls
namespace Go.Proofs.YtobbmhboahognaaDoor
open Go.RowKit
set_option linter.unusedVariables false

theorem grown_below {B : Nat} {w0 w w' : World} {k : Nat} (h : Below B w0 w) (g : w.grownBy w' (some k)) (hB : B ≤ w.heap.size) (hk : B ≤ k) : Below B w0 w' := h.grown g hB (fun j e => by cases e; exact hk)
/-- What Arm leaves, where the id becomes armed. -/
def ArmPost (W : World) (F : List Nat) (b : Nat) (now : Int) (S : List Itm) (last m : Nat) (id d : Int) (e : Ending) (w' : World) : Prop := e = .returned .nilIface ∧ ∃ F', CLed W F b w' F' now (insI S ⟨d, id, (last : Int) + 1⟩) (last + 1) (m + 2)
set_option maxHeartbeats 4000000 in
set_option maxRecDepth 100000 in
theorem clkArm_yes {W : World} {F : List Nat} {b : Nat} {now : Int} {S : List Itm} {last m : Nat} (h : ClockAt W F b now S last m) (id d : Int) (hid : (Lit.int .u64 id).wf = true) (h0 : id ≠ 0) (hn : ∀ x ∈ S, x.w ≠ id) (hd : d ≠ 18446744073709551615) (hm : m ≤ 4000) :
    Calls Tryd.prog 29 #[.pointer (some ⟨b, 0, none⟩), .int .u64 id, .int .u64 d] W (ArmPost W F b now S last m id d) := by
  obtain ⟨qb, mb, N, mc, v, c, cc, k, rfl, hP, hwd, hwf, hk, hlast, hcc, hc⟩ := h
  have hf := fOf_none hn
  have lk := hP.al.look id hid
  rw [hf] at lk
  have lk' : (Instr.lookup 120 (.map (some mc)) (.int .u64 id) true).run Tryd.prog W = .ok (.tuple #[.agg #[.int .i64 0, .int .u64 0], .bool false]) W := lk
  have c1 := hP.c1
  have c2 := hP.c2
  have hbl := hP.row.lt
  have PUT := Lib.hid (fun W1 (hb : Below W.heap.size W W1) => putS (hP.heap.below hb) d id (by omega) (by omega) (by unfold maxLen; omega))
  have NEXT := Lib.hid (fun W1 W2 v' W3 (hb : Below W.heap.size W W1) (l : Led W1 qb mb N v W2 v' (c + 2 * S.length + 3) (insI S ⟨d, id, (last : Int) + 1⟩) (last + 1)) (ha : AlIs W3 mc (cc + 1) (S.length + 1) (aput (fOf S) id ((last : Int) + 1, d))) (hg : W2.grownBy W3 (some mc)) => (show ∃ F', CLed W (clkF b qb mb mc v) b W3 F' now (insI S ⟨d, id, (last : Int) + 1⟩) (last + 1) (m + 2) by
    have h1 := hP.only (Only.of_below (F := []) hb) (by simp)
    have h2 := h1.step l
    have h3 := h2.mapped (grown_only hg) ha
    have e := fOf_ins (x := ⟨d, id, (last : Int) + 1⟩) hwd hn
    refine ⟨clkF b qb mb mc v', ⟨qb, mb, N, mc, v', c + 2 * S.length + 3, cc + 1, k + 1, rfl, ?_, hwd.ins (x := ⟨d, id, (last : Int) + 1⟩) hn, ?_, ?_, by omega, by omega, by omega⟩, ?_, ?_⟩
    · rw [insI_length, e]; exact h3
    · intro x hx
      rcases List.mem_cons.1 ((insI_perm S _).mem_iff.1 hx) with rfl | hx
      · exact hid
      · exact hwf x hx
    · rw [insI_length]; omega
    · intro j hj
      rcases clk_jump (b := b) (mc := mc) l j hj with h | h
      · exact .inl h
      · exact .inr (Nat.le_trans hb.size h)
    · exact ((Only.of_below hb).trans (clk_only l)).trans ((grown_only hg).mono (by simp))))
  have AL := Lib.hid hP
  have hcm : cc < maxLen := by unfold maxLen; omega
  have HID := Lib.hid hid
  have HF := Lib.hid hf
  have hne : (id == 0) = false := by simpa using h0
  have hdn : (d != 18446744073709551615) = true := by simpa using hd
  clear hP hwd hwf hn hk hlast hcc hc lk hf h0 hd hid
  unfold ArmPost
  go_enter Tryd.func29, Tryd.ntmps29
  go_upto_region 7 with fail
  have hb0 : Below W.heap.size W (W.alloc (.cells #[.int .i64 0, .int .u64 0] 124)) := (Below.refl _ _).alloc (Nat.le_refl _) _
  generalize (W.alloc (.cells #[.int .i64 0, .int .u64 0] 124)) = W1 at hb0 ⊢
  have c1 : W1.cell? ⟨b, 1, none⟩ = some (.pointer (some ⟨qb, 0, none⟩)) := (hb0.cell (p := ⟨b, 1, none⟩) hbl).trans c1
  have c2 : W1.cell? ⟨b, 2, none⟩ = some (.map (some mc)) := (hb0.cell (p := ⟨b, 2, none⟩) hbl).trans c2
  have HB0 := Lib.hid hb0.drew
  clear hb0
  go_region_held3 (fun w' => w'.cell? ⟨b, 1, none⟩ = some (.pointer (some ⟨qb, 0, none⟩)) ∧ w'.cell? ⟨b, 2, none⟩ = some (.map (some mc))) (go_keep)
    (first
      | (go_at_call 61; ((with_reducible refine (PUT.out _ HB0.out).mono ?_); rintro e w2 ⟨rfl, v', l⟩; have P2 := Lib.hid ((AL.out.only (Only.of_below (F := []) HB0.out) (by simp)).step l); have d1 := P2.out.c1; have d2 := P2.out.c2; obtain ⟨w3, hr, ha, hg, hs⟩ := P2.out.al.put id HID.out ((last : Int) + 1) d HF.out hcm; have e1 := (P2.out.mapped (grown_only hg) ha).c1; have e2 := (P2.out.mapped (grown_only hg) ha).c2)))
  all_goals
    go_wp2_with fail
    go_ret
    exact ⟨rfl, NEXT.out _ _ _ _ HB0.out l ha hg⟩
end Go.Proofs.YtobbmhboahognaaDoor
