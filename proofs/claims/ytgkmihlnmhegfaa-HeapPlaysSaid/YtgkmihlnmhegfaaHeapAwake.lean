/- The document's example (layer 7): awake returns true; of what was there nothing has turned. No condition. -/
import Derived.Test.YtgkmihlnmhegfaaHeapSpec
namespace Go.Proofs.Ytgkmihlnmhegfaa
open Go.RowKit
set_option linter.unusedVariables false

/-- A queue in memory that was made since w0. -/
structure Since (w0 : World) (B0 : Nat) (W : World) (b mb N : Nat) (v : Value) (c : Nat) (S : List Itm) (last : Nat) : Prop where
  at1 : HeapIs W b mb N v c S last
  hb : B0 ≤ b
  hm : B0 ≤ mb
  hN : B0 ≤ N
  bel : Below B0 w0 W
section
variable {w0 W W' : World} {B0 b mb N c : Nat} {v : Value} {S : List Itm} {last : Nat}
theorem Since.led {v' : Value} {c' : Nat} {S' : List Itm} {last' : Nat} (h : Since w0 B0 W b mb N v c S last) (l : Led W b mb N v W' v' c' S' last') : Since w0 B0 W' b mb N v' c' S' last' := by
  have hf := h.at1.facts
  refine ⟨l.at1, h.hb, h.hm, h.hN, h.bel.trans (l.only.below (fun k hk => ?_) (by have := h.hN; omega))⟩
  simp only [List.mem_cons] at hk
  rcases hk with rfl | rfl | hk
  · exact h.hb
  · exact h.hm
  · have := (h.at1.own k (by simpa using hk)).1; have := h.hN; omega
theorem Since.below (h : Since w0 B0 W b mb N v c S last) (hb : Below W.heap.size W W') : Since w0 B0 W' b mb N v c S last := h.led (Led.same h.at1 hb)
end
theorem newQ (w0 : World) (B0 : Nat) (W : World) (hb : Below B0 w0 W) (hB : B0 ≤ W.heap.size) : Calls Try.prog 8 #[] W fun e w' => e = .returned (.pointer (some ⟨W.heap.size + 1, 0, none⟩)) ∧ Since w0 B0 w' (W.heap.size + 1) W.heap.size (W.heap.size + 2) (.slice none 0 0) 0 [] 0 :=
  (newS W).mono fun _ _ ⟨h1, h2, h3⟩ => ⟨h1, h2, by omega, hB, by omega, hb.trans (h3.mono hB)⟩

set_option maxHeartbeats 2000000 in
set_option maxRecDepth 100000 in
theorem awake_any (w : World) : Calls Try.prog 21 #[] w fun e w' => e = .returned (.bool true) ∧ Below w.heap.size w w' := by
  have NW := Lib.hid (newQ w w.heap.size w (Below.refl _ _) (Nat.le_refl _))
  have s1 : insI [] ⟨5, 70, ((0 : Nat) : Int) + 1⟩ = [⟨5, 70, 1⟩] := rfl
  have s2 : insI [⟨5, 70, 1⟩] ⟨3, 71, ((1 : Nat) : Int) + 1⟩ = [⟨3, 71, 2⟩, ⟨5, 70, 1⟩] := by simp [insI, ltI]
  have s3 : insI [⟨3, 71, 2⟩, ⟨5, 70, 1⟩] ⟨3, 72, ((2 : Nat) : Int) + 1⟩ = [⟨3, 71, 2⟩, ⟨3, 72, 3⟩, ⟨5, 70, 1⟩] := by simp [insI, ltI]
  have S1 := Lib.hid s1
  have S2 := Lib.hid s2
  have S3 := Lib.hid s3
  clear s1 s2 s3
  go_enter Try.func21, Try.ntmps21
  go_wp2_with fail
  go_at_call 8
  refine NW.out.mono ?_
  rintro e w1 ⟨rfl, h1⟩
  obtain ⟨b, hb⟩ : ∃ b, b = w.heap.size + 1 := ⟨_, rfl⟩
  rw [← hb] at h1
  simp only [← hb]
  clear hb
  have P1 := Lib.hid (putS h1.at1 5 70 (by simp) (by omega) (by simp [maxLen]))
  have H1 := Lib.hid h1
  clear h1
  go_wp2_with fail
  go_at_call 16
  refine P1.out.mono ?_
  rintro e w2 ⟨rfl, v2, l2⟩
  rw [S1.out] at l2
  have h2 := H1.out.led l2
  have P2 := Lib.hid (putS h2.at1 3 71 (by simp) (by omega) (by simp [maxLen]))
  have H2 := Lib.hid h2
  clear h2 l2
  go_wp2_with fail
  go_at_call 16
  refine P2.out.mono ?_
  rintro e w3 ⟨rfl, v3, l3⟩
  rw [S2.out] at l3
  have h3 := H2.out.led l3
  have P3 := Lib.hid (putS h3.at1 3 72 (by simp) (by omega) (by simp [maxLen]))
  have H3 := Lib.hid h3
  clear h3 l3
  go_wp2_with fail
  go_at_call 16
  refine P3.out.mono ?_
  rintro e w4 ⟨rfl, v4, l4⟩
  rw [S3.out] at l4
  have h4 := H3.out.led l4
  have P4 := Lib.hid (popS_yes h4.at1 3 (by simp) (by simp) (by omega) (by simp [maxLen]))
  have H4 := Lib.hid h4
  clear h4 l4
  go_wp2_with fail
  go_at_call 14
  refine P4.out.mono ?_
  rintro e w5 ⟨rfl, v5, l5⟩
  have h5 := H4.out.led l5
  have P5 := Lib.hid (popS_yes h5.at1 3 (by simp) (by simp) (by omega) (by simp [maxLen]))
  have H5 := Lib.hid h5
  clear h5 l5
  go_wp2_with fail
  go_at_call 14
  refine P5.out.mono ?_
  rintro e w6 ⟨rfl, v6, l6⟩
  have h6 := H5.out.led l6
  have P6 := Lib.hid (popS_no h6.at1 4 (by intro y T e; cases e; simp) (by simp))
  have H6 := Lib.hid h6
  clear h6 l6
  go_wp2_with fail
  go_at_call 14
  refine P6.out.mono ?_
  rintro e w7 ⟨rfl, hb7⟩
  have h7 := H6.out.below hb7
  have P7 := Lib.hid (lenS h7.at1 (by simp))
  have H7 := Lib.hid h7
  clear h7 hb7
  go_wp2_with fail
  go_at_call 18
  refine P7.out.mono ?_
  rintro e w8 ⟨rfl, rfl⟩
  go_wp2_with fail
  go_ret
  exact ⟨rfl, H7.out.bel⟩
end Go.Proofs.Ytgkmihlnmhegfaa
