/- Contract of package asm's readLabel (layer 5): a label is laid down, or a text's error. The conditions: the reader's things lie there; the name has at most 65536 bytes; fewer than a million labels are there by now. -/
import Derived.Test.YtneajiglkiffjaaGreatDoorAsmStep
import Derived.Deep.RegionLaw
namespace Go.Proofs.YtneajiglkiffjaaGreatDoor
open Go.RowKit
set_option linter.unusedVariables false

/-- What readLabel leaves. -/
def LabOut (ok : Bool) (l : List UInt8) (rb mb n : Nat) (s : AsmS) (vc vl vu : Value) (w : World) (e : Ending) (w' : World) : Prop :=
  if ok then e = .returned .nilIface ∧ ∃ vl', Rd w' rb mb n { s with labels := s.labels ++ [(l, s.code.length, n)] } vc vl' vu ∧ Only (foot rb mb vc vl vu) w w' ∧ FootOk w (foot rb mb vc vl vu) (foot rb mb vc vl' vu)
  else e = .returned (.iface 49 (.int .i64 6)) ∧ Only [] w w'
set_option maxHeartbeats 2000000 in
set_option maxRecDepth 100000 in
theorem readLabel_any (l : List UInt8) (hl : l.length ≤ 65536) (rb mb n : Nat) (s : AsmS) (vc vl vu : Value) (w : World) (hR : Rd w rb mb n s vc vl vu) (hlen : s.labels.length < 1000000) :
    Calls Tryz.prog 55 #[.pointer (some ⟨rb, 0, none⟩), .string (bytesA l)] w (LabOut (!(s.labels.any (·.1 == l)) && nameB l) l rb mb n s vc vl vu w) := by
  have IN := Lib.hid (fun W => isName_l l hl W)
  have HLK := hR.m.look l (by simp only [maxLen]; omega)
  rw [place_any] at HLK
  obtain ⟨pa, hpa⟩ : ∃ pa : Int, pa = (((placeOf s.labels l).getD (0, 0)).1 : Int) := ⟨_, rfl⟩
  obtain ⟨pl, hpl⟩ : ∃ pl : Int, pl = (((placeOf s.labels l).getD (0, 0)).2 : Int) := ⟨_, rfl⟩
  rw [← hpa, ← hpl] at HLK
  clear hpa hpl
  obtain ⟨c0, c1, c2, c3, c4⟩ := hR.cells
  obtain ⟨A, cap, rfl⟩ := own_form hR.c
  obtain ⟨was, hwas⟩ : ∃ q, q = s.labels.any (·.1 == l) := ⟨_, rfl⟩
  rw [← hwas] at HLK ⊢
  have HW := Lib.hid hwas
  clear hwas
  have HR := Lib.hid hR
  obtain ⟨t, ht⟩ : ∃ t, t = bytesA l := ⟨_, rfl⟩
  rw [← ht] at IN HLK ⊢
  have HT := Lib.hid ht
  clear ht hR
  cases was with
  | true =>
    have FIN := Lib.hid (fun w' (hb : Below w.heap.size w w') => show LabOut (!true && nameB l) l rb mb n s (.slice A s.code.length cap) vl vu w (.returned (.iface 49 (.int .i64 6))) w' from ⟨rfl, Only.of_below hb⟩)
    go_enter Tryz.func55, Tryz.ntmps55
    go_wp2_with fail
    go_ret
    exact FIN.out _ ((Below.refl _ _).alloc (Nat.le_refl _) _)
  | false =>
    obtain ⟨q, hq⟩ : ∃ q, q = nameB l := ⟨_, rfl⟩
    rw [← hq] at IN ⊢
    clear hq
    have b1 : Below w.heap.size w (w.alloc (.cells #[.int .i64 pa, .int .i64 pl] 121)) := (Below.refl _ _).alloc (Nat.le_refl _) _
    have R1 := Lib.hid (HR.out.alloc (.cells #[.int .i64 pa, .int .i64 pl] 121))
    cases q with
    | false =>
      have FIN := Lib.hid (fun w' (hb : Below (w.alloc (.cells #[.int .i64 pa, .int .i64 pl] 121)).heap.size (w.alloc (.cells #[.int .i64 pa, .int .i64 pl] 121)) w') => show LabOut (!false && false) l rb mb n s (.slice A s.code.length cap) vl vu w (.returned (.iface 49 (.int .i64 6))) w' from
        ⟨rfl, Only.of_below (b1.trans (hb.mono b1.size))⟩)
      clear b1
      go_enter Tryz.func55, Tryz.ntmps55
      go_wp2_with fail
      go_at_call 74
      refine (IN.out _).mono ?_
      rintro e w1 ⟨rfl, hb1⟩
      have HB1 := Lib.hid hb1
      clear hb1
      go_wp2_with fail
      go_ret
      exact FIN.out _ HB1.out
    | true =>
      have B1 := Lib.hid b1
      clear b1
      go_enter Tryz.func55, Tryz.ntmps55
      go_wp2_with fail
      go_at_call 74
      refine (IN.out _).mono ?_
      rintro e w2 ⟨rfl, hb1⟩
      have HB := Lib.hid (show Below w.heap.size w w2 from B1.out.trans (hb1.mono B1.out.size))
      have R2 := R1.out.only (Only.of_below hb1) (F := []) (by simp)
      have HR2 := Lib.hid R2
      clear hb1 R2 HLK c0 c1 c2 c3 c4
      obtain ⟨c0, c1, c2, c3, c4⟩ := HR2.out.cells
      obtain ⟨W3, hrun, hm, hg, hsz⟩ := (HR2.out.m.block (W' := w2.drew) rfl).put l (by simp only [maxLen]; omega) (by simp only [maxLen]; omega) s.code.length n
      rw [← HT.out] at hrun
      go_wp2_with fail
      have PM := Lib.hid (And.intro hm hg)
      go_region
      all_goals
        have HS3 := Lib.hid hsz
        clear hrun hm hg hsz c0 c1 c2 c3 c4
        have RD := Lib.hid (show Rd w2.drew rb mb n s (.slice A s.code.length cap) vl vu from HR2.out.block fun _ _ => rfl)
        obtain ⟨km, om⟩ := RD.out.mapped PM.out.2
        have hrb : W3.heap[rb]? = _ := (km rb (RD.out.lt rb (by simp [foot])) RD.out.rm).trans RD.out.r
        have c0 : W3.cell? ⟨rb, 0, none⟩ = some (.int .i64 (n : Int)) := by rw [cell_of_row W3 rb 0 _ _ (0, 0) hrb]; rfl
        have c1 : W3.cell? ⟨rb, 1, none⟩ = some (.slice A s.code.length cap) := by rw [cell_of_row W3 rb 1 _ _ (0, 0) hrb]; rfl
        have c2 : W3.cell? ⟨rb, 2, none⟩ = some vl := by rw [cell_of_row W3 rb 2 _ _ (0, 0) hrb]; rfl
        have hrb4 : (W3.alloc (.cells #[.string t, .int .i64 (s.code.length : Int)] 41)).heap[rb]? = _ := (Below.heap_alloc _ _ _ (heap_ltA hrb)).trans hrb
        have k2 : (W3.alloc (.cells #[.string t, .int .i64 (s.code.length : Int)] 41)).cell? ⟨rb, 2, none⟩ = some vl := by rw [cell_of_row _ rb 2 _ _ (0, 0) hrb4]; rfl
        have hol : W3.ownsRow 0 41 2 vl s.labels.length (flatLab s.labels) := ownsRow_block RD.out.l fun k hk => km k (RD.out.lt k (by simp [foot, hk])) (RD.out.lApart k hk).2.1
        obtain ⟨v', W4, hr, ho, hg4, hloc, hsz4⟩ := push_any (t := 35) (e := 41) Tryz.underlying35 info_Label rfl (by decide) (by decide) (X := (W3.alloc (.cells #[.string t, .int .i64 (s.code.length : Int)] 41)).drew)
          (hol.alloc (.cells #[.string t, .int .i64 (s.code.length : Int)] 41)).drew hlen W3.heap.size
          [.string t, .int .i64 (s.code.length : Int)] rfl (fun j u hu => by show (W3.alloc _).cell? _ = _; rw [World.cell?_alloc_at _ _ _ _ rfl]; simpa using hu) (by intro u hu; simp at hu; rcases hu with rfl | rfl <;> rfl) 35
        obtain ⟨A', cap', rfl⟩ := own_form ho
        have PU := Lib.hid (pushed hg4 hloc)
        obtain ⟨⟨d2, g2⟩, hRd, hOn⟩ := RD.out.pushL (l, s.code.length, n) PM.out.1 PM.out.2 PU.out (by rw [← HT.out]; exact ho)
        have FIN := Lib.hid (show LabOut (!false && true) l rb mb n s (.slice A s.code.length cap) vl vu w (.returned .nilIface) (W4.setCell ⟨rb, 2, none⟩ (.slice A' (s.labels.length + 1) cap')) from
          ⟨rfl, _, hRd, ((Only.of_below HB.out).trans ((Only.refl _ _).drew)).trans hOn, foot_ok (.inl rfl) (by
            rcases PU.out.loc with h | ⟨k, hk, hs⟩
            · exact .inl h
            · exact .inr ⟨k, hk, by have := HB.out.size; have h9 := HS3.out; rw [h9] at hs; exact Nat.le_trans this hs⟩) (.inl rfl)⟩)
        have HRUN := Lib.hid hr
        clear hr ho hg4 hloc hsz4 hrb hrb4 hol km om hRd hOn
        go_wp2_with fail
        go_region_law (refine step_call rfl (.tmp 42) (.tmp 50) 35 35 rfl vl _ (by simp [Act.eval]) (by simp [Act.eval]) HRUN.out ?_)
        all_goals
          go_wp2_with fail
          go_ret
          exact FIN.out
end Go.Proofs.YtneajiglkiffjaaGreatDoor
