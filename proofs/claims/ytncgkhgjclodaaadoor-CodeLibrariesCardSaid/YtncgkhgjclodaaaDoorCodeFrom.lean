/- The program's word on a code that begins somewhere (layer 4): the contract of checkFrom. The conditions: the instructions lie there, fewer than 2^62, their numbers are words; the library's variable errors.errorType holds the type error. -/
import Derived.Test.YtncgkhgjclodaaaDoorCodeCheck
import Derived.StillTailTactics
namespace Go.Proofs.YtncgkhgjclodaaaDoor
open Go.RowKit Go.Extern.Stop Go.Stop Go.Extern
set_option linter.unusedVariables false

set_option maxHeartbeats 400000 in
theorem as_nil (t : Value) (w : World) : Calls Tryd.prog 29 #[.nilIface, .iface 69 t] w fun e w' => e = .returned (.bool false) ∧ w = w' := by
  go_enter Tryd.func29, Tryd.ntmps29
  go_wp2
  go_ret
  exact ⟨rfl, rfl⟩
/-- What errors.As leaves at a place: the target told, nothing else turned. -/
theorem as_hit_only (e : Addr) (tb : Nat) (old : Value) (w : World) (hg : ErrType w) (ht0 : w.cell? ⟨tb, 0, none⟩ = some old) (hf0 : w.frozen? ⟨tb, 0, none⟩ = false) :
    Calls Tryd.prog 29 #[.iface 67 (.pointer (some e)), .iface 69 (.pointer (some ⟨tb, 0, none⟩))] w fun ev w' => ev = .returned (.bool true) ∧ w'.cell? ⟨tb, 0, none⟩ = some (.pointer (some e)) ∧ Only [tb] w w' := by
  have htl : tb < w.heap.size := cell_lt ht0
  refine (as_hit e ⟨tb, 0, none⟩ old w hg ht0 hf0).mono ?_
  rintro ev w' ⟨rfl, rfl⟩
  refine ⟨rfl, ?_, ?_⟩
  · refine World.cell?_setCell_same _ _ _ (u := old) ?_
    rw [World.cell?_alloc_lt _ _ _ (by simp; omega), World.cell?_alloc_lt _ _ _ (by simp; omega), World.cell?_alloc_lt _ _ _ (by simp; omega), World.cell?_alloc_lt _ _ _ htl]; exact ht0
  · exact (((((Only.refl [tb] w).alloc _).alloc _).alloc _).alloc _).setCell (.inl (by simp)) _
set_option maxHeartbeats 400000 in
theorem isIndex_any (n len : Int) (w : World) : Calls Tryd.prog 47 #[.int .i64 n, .int .i64 len] w fun e w' => e = .returned (.bool (decide (0 ≤ n) && decide (n < len))) ∧ w = w' := by
  by_cases h0 : 0 ≤ n
  · by_cases h1 : n < len
    · rw [show (decide (0 ≤ n) && decide (n < len)) = true by simp [h0, h1]]
      go_enter Tryd.func47, Tryd.ntmps47
      go_wp2
      go_ret
      exact ⟨rfl, rfl⟩
    · rw [show (decide (0 ≤ n) && decide (n < len)) = false by simp [h1]]
      go_enter Tryd.func47, Tryd.ntmps47
      go_wp2
      go_ret
      exact ⟨rfl, rfl⟩
  · rw [show (decide (0 ≤ n) && decide (n < len)) = false by simp [h0]]
    go_enter Tryd.func47, Tryd.ntmps47
    go_wp2
    go_ret
    exact ⟨rfl, rfl⟩

/-- What checkFrom says. -/
def fromRes (l : List Inst) (st : Int) (lib : Bool) : Option (List (ByteArray × Int) × Int) :=
  if l.length = 0 then some ([(codeS, 0)], 1) else
  match checkRes l lib with
  | some x => some ([(codeS, x.1), (codeS, x.1)], x.2)
  | none => if st < 0 ∨ (l.length : Int) ≤ st then some ([(codeS, max st 0)], 5) else none

/-- What the target and the error are behind errors.As. -/
theorem from_at {w w1 w2 : World} {x : Nat} {n k : Int} (hE : ErrAt w1 (.iface 67 (.pointer (some ⟨x, 0, none⟩))) [(codeS, n)] k) (hb : Below w.heap.size w w1) (ht : w1.cell? ⟨w.heap.size, 0, none⟩ = some (.pointer none)) (hO : Only [w.heap.size] w1 w2) :
    w2.cell? ⟨x, 1, none⟩ = some (.int .i64 n) ∧ ErrAt w2 (.iface 67 (.pointer (some ⟨x, 0, none⟩))) [(codeS, n)] k ∧ Below w.heap.size w w2 := by
  cases hE with
  | place _ _ _ inner _ _ h0 h1 h2 h3 =>
  cases h3
  have hx : x ∉ [w.heap.size] := by
    intro hm
    obtain rfl : x = w.heap.size := by simpa using hm
    rw [ht] at h0; cases h0
  have kc : ∀ (o : Nat) (u : Value), w1.cell? ⟨x, o, none⟩ = some u → w2.cell? ⟨x, o, none⟩ = some u := fun o u h =>
    (World.cell?_of_block (w := w1) (w' := w2) (a := ⟨x, o, none⟩) (hO.block x (cell_lt h) hx)).trans h
  exact ⟨kc _ _ h1, .place _ _ _ _ _ _ (kc _ _ h0) (kc _ _ h1) (kc _ _ h2) (.kind k), hb.trans (hO.below (by simp) hb.size)⟩

set_option maxHeartbeats 2000000 in
set_option maxRecDepth 100000 in
theorem from_any (A : Option Addr) (cap : Nat) (l : List Inst) (st : Int) (lib : Bool) (w : World) (hl : l.length < 4611686018427387904) (hI : InsIn w A l) (hO : ∀ i, i < l.length → InsOk (l.getD i inst0)) (hE : ErrType w) :
    Calls Tryd.prog 33 #[.slice A l.length cap, .int .i64 st, .bool lib] w (EPost (fromRes l st lib) w) := by
  have CK := fun W (hb : Below w.heap.size w W) => check_any A cap l lib W hl (hI.below hb) hO
  have hb0 : Below w.heap.size w (w.alloc (.cells #[.pointer none] 67)) := (Below.refl _ _).alloc (Nat.le_refl _) _
  have CK1 := CK _ hb0
  have r0 := Row.new w [.pointer none] 67
  obtain ⟨R, hR⟩ : ∃ R, R = fromRes l st lib := ⟨_, rfl⟩
  rw [← hR]
  unfold fromRes at hR
  obtain ⟨N, hN⟩ : ∃ N, N = l.length := ⟨_, rfl⟩
  rw [← hN] at hR CK1 hl ⊢
  have HB0 := Lib.hid hb0
  have R0 := Lib.hid r0
  have HE := Lib.hid hE
  by_cases h0 : N = 0
  · rw [if_pos h0] at hR
    have FA := Lib.hid (fun W => cfault_any 0 57 (.int .i64 1) W)
    have FIN := Lib.hid (e_no 0 1 (Below.refl w.heap.size w))
    rw [← hR] at FIN
    clear hR hN hI hO CK CK1 hb0 r0 hE
    subst h0
    go_enter Tryd.func33, Tryd.ntmps33
    go_wp2_with (go_at_call 30; refine (FA.out _).mono ?_; rintro e w' ⟨rfl, rfl⟩)
    go_ret
    exact FIN.out
  · rw [if_neg h0] at hR
    cases hr : checkRes l lib with
    | some x =>
      obtain ⟨n, k⟩ := x
      rw [hr] at hR CK1
      have CK2 := Lib.hid (show Calls Tryd.prog 13 #[.slice A N cap, .bool lib] (w.alloc (.cells #[.pointer none] 67)) fun e w' => ∃ x, e = .returned (.iface 67 (.pointer (some ⟨x, 0, none⟩))) ∧ ErrAt w' (.iface 67 (.pointer (some ⟨x, 0, none⟩))) [(codeS, n)] k ∧ Below (w.alloc (.cells #[.pointer none] 67)).heap.size (w.alloc (.cells #[.pointer none] 67)) w' from CK1)
      have HR := Lib.hid (show R = some ([(codeS, n), (codeS, n)], k) from hR)
      have FA := Lib.hid (fun (x : Nat) W => cfault_any n 67 (.pointer (some ⟨x, 0, none⟩)) W)
      clear hR hN hI hO CK CK1 hb0 r0 hE hr
      go_enter Tryd.func33, Tryd.ntmps33
      go_wp2_with fail
      go_at_call 13
      refine CK2.out.mono ?_
      rintro e w1 ⟨x, rfl, hEr, hb1⟩
      have HB1 := Lib.hid (HB0.out.trans (hb1.mono HB0.out.size))
      have r1 := R0.out.below hb1 (by simp)
      have t0 := r1.cell 0 (by simp)
      have tf := r1.free 0 (by simp)
      simp only [List.getElem_cons_zero] at t0
      have HT := Lib.hid t0
      have HER := Lib.hid hEr
      have AS := Lib.hid (as_hit_only ⟨x, 0, none⟩ w.heap.size _ w1 (errType_below HB1.out HE.out (cell_lt HE.out)) t0 tf)
      clear r1 t0 tf hEr hb1
      go_wp2_with fail
      go_at_call 29
      refine AS.out.mono ?_
      rintro e w2 ⟨rfl, t2, hOn⟩
      obtain ⟨c1, hEr2, hb2⟩ := from_at HER.out HB1.out HT.out hOn
      have FIN := Lib.hid (e_in (w1 := w2.drew) n k _ (ErrAt.mono (W := w2) (W' := w2.drew) (fun p v h => h) hEr2) ⟨hb2.os, hb2.tape, hb2.output, hb2.size, hb2.block⟩)
      rw [← HR.out] at FIN
      have c1' : w2.drew.cell? ⟨x, 1, none⟩ = some (.int .i64 n) := c1
      have t2' : w2.drew.cell? ⟨w.heap.size, 0, none⟩ = some (.pointer (some ⟨x, 0, none⟩)) := t2
      clear hOn hEr2 hb2
      go_upto_region 5 with fail
      go_still_tail 6, (by kernel_rfl)
      change wpList _ _ _ _ _ w2.drew
      generalize w2.drew = w3 at FIN c1' t2' ⊢
      clear c1 t2
      go_wp2_with (go_at_call 30; refine (FA.out _ _).mono ?_; rintro e w' ⟨rfl, rfl⟩)
      go_ret
      exact FIN.out
    | none =>
      rw [hr] at hR CK1
      have CK2 := Lib.hid (show Calls Tryd.prog 13 #[.slice A N cap, .bool lib] (w.alloc (.cells #[.pointer none] 67)) fun e w' => e = .returned .nilIface ∧ Below (w.alloc (.cells #[.pointer none] 67)).heap.size (w.alloc (.cells #[.pointer none] 67)) w' from CK1)
      have HR := Lib.hid (show R = if st < 0 ∨ (N : Int) ≤ st then some ([(codeS, max st 0)], 5) else none from hR)
      have AS := Lib.hid (fun W => as_nil (.pointer (some ⟨w.heap.size, 0, none⟩)) W)
      clear hN hI hO CK CK1 hb0 r0 hE hr hR
      by_cases hin : st < 0 ∨ (N : Int) ≤ st
      · have IX := Lib.hid (fun W => isIndex_any st N W)
        rw [show (decide (0 ≤ st) && decide (st < (N : Int))) = false by simp; omega] at IX
        obtain ⟨mx, hmx⟩ : ∃ mx, mx = max st 0 := ⟨_, rfl⟩
        have FA := Lib.hid (fun W => cfault_any mx 57 (.int .i64 5) W)
        have hres : R = some ([(codeS, mx)], 5) := by rw [HR.out, if_pos hin, hmx]
        have FIN0 := Lib.hid (fun w1 (hb : Below w.heap.size w w1) => e_no (w := w) (w1 := w1) mx 5 hb)
        rw [← hres] at FIN0
        clear hres
        by_cases hneg : st < 0
        · have hm0 : mx = 0 := by rw [hmx]; exact Int.max_eq_right (by omega)
          subst hm0
          clear hmx hin
          go_enter Tryd.func33, Tryd.ntmps33
          go_wp2_with fail
          go_at_call 13
          refine CK2.out.mono ?_
          rintro e w1 ⟨rfl, hb1⟩
          have HB1 := Lib.hid (HB0.out.trans (hb1.mono HB0.out.size))
          clear hb1
          go_wp2_with (first | (go_at_call 29; refine (AS.out _).mono ?_; rintro e w' ⟨rfl, rfl⟩) | (go_at_call 47; refine (IX.out _).mono ?_; rintro e w' ⟨rfl, rfl⟩) | (go_at_call 30; refine (FA.out _).mono ?_; rintro e w' ⟨rfl, rfl⟩))
          all_goals first
            | (exfalso; omega)
            | (go_ret
               exact FIN0.out _ HB1.out)
        · have hm0 : mx = st := by rw [hmx]; exact Int.max_eq_left (by omega)
          subst hm0
          have hge : (N : Int) ≤ mx := by omega
          clear hmx hin
          go_enter Tryd.func33, Tryd.ntmps33
          go_wp2_with fail
          go_at_call 13
          refine CK2.out.mono ?_
          rintro e w1 ⟨rfl, hb1⟩
          have HB1 := Lib.hid (HB0.out.trans (hb1.mono HB0.out.size))
          clear hb1
          go_wp2_with (first | (go_at_call 29; refine (AS.out _).mono ?_; rintro e w' ⟨rfl, rfl⟩) | (go_at_call 47; refine (IX.out _).mono ?_; rintro e w' ⟨rfl, rfl⟩) | (go_at_call 30; refine (FA.out _).mono ?_; rintro e w' ⟨rfl, rfl⟩))
          all_goals first
            | (exfalso; omega)
            | (go_ret
               exact FIN0.out _ HB1.out)
      · have IX := Lib.hid (fun W => isIndex_any st N W)
        rw [show (decide (0 ≤ st) && decide (st < (N : Int))) = true by simp; omega] at IX
        have hres : R = none := by rw [HR.out, if_neg hin]
        clear hin
        go_enter Tryd.func33, Tryd.ntmps33
        go_wp2_with fail
        go_at_call 13
        refine CK2.out.mono ?_
        rintro e w1 ⟨rfl, hb1⟩
        have FIN := Lib.hid (show EPost none w (.returned .nilIface) w1 from ⟨rfl, HB0.out.trans (hb1.mono HB0.out.size)⟩)
        rw [← hres] at FIN
        clear hb1 hres
        go_wp2_with (first | (go_at_call 29; refine (AS.out _).mono ?_; rintro e w' ⟨rfl, rfl⟩) | (go_at_call 47; refine (IX.out _).mono ?_; rintro e w' ⟨rfl, rfl⟩))
        go_ret
        exact FIN.out
end Go.Proofs.YtncgkhgjclodaaaDoor
