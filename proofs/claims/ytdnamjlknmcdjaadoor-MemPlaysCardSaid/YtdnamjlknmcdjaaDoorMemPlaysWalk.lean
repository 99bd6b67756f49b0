/- The walk of MemPlays: it returns true; of what was there nothing has turned. The condition: the library's variable errors.errorType holds the type error. -/
import Derived.Test.YtdnamjlknmcdjaaDoorMemStep
import Derived.Test.YtdnamjlknmcdjaaDoorMemAwake
import Derived.Test.YtdnamjlknmcdjaaDoorRefMemNew
import Derived.Test.YtdnamjlknmcdjaaDoorMemOps
namespace Go.Proofs.YtdnamjlknmcdjaaDoor
open Go.RowKit
set_option linter.unusedVariables false

/-- Two new memories of one size. -/
theorem both_new {w1 w2 : World} {b bc r bw bh c : Nat} (hm : MemAt w1 b bc { ws := List.replicate c 0, hs := List.replicate c 0, n := 0 } 0) (hg : ErrType w1) (hlb : 0 < b) (hlc : 0 < bc)
    (hr : RefMem w2 r bw bh { ws := List.replicate c 0, hs := List.replicate c 0, n := 0 }) (hb : Below w1.heap.size w1 w2) (h1 : w1.heap.size ≤ r) (h2 : w1.heap.size ≤ bw) (h3 : w1.heap.size ≤ bh) (hc : c < 2147483648) :
    Both w2 b bc r bw bh { ws := List.replicate c 0, hs := List.replicate c 0, n := 0 } := by
  have l1 := hm.top.lt
  have l2 := hm.lt
  have lg := cell_lt hg
  have ct : countNZ (List.replicate c 0) = 0 := by
    clear hm hr l1 l2 hc
    induction c with
    | zero => rfl
    | succ c ih => rw [List.replicate_succ, countNZ, ih]; rfl
  refine ⟨?_, hr, Good.fresh c hc, errType_below hb hg lg, ?_⟩
  · show MemAt w2 b bc _ (countNZ (List.replicate c 0))
    rw [ct]; exact hm.only (F := []) (Only.of_below hb) (by simp) (by simp)
  · exact ⟨⟨by omega, by omega, by omega⟩, ⟨by omega, by omega, by omega⟩, by omega, by omega, by omega, by omega, by omega⟩

set_option maxHeartbeats 4000000 in
set_option maxRecDepth 100000 in
theorem memPlays_walk (d0 : Int) (_w0 : (Lit.int .i64 d0).wf = true) (w : World) (A : Option Addr) (len cap : Nat) (hl : len ≤ maxLen) (hs : OpsIn w A len) (hg : ErrType w) :
    Calls Tryd.prog 3 #[.int .i64 d0, .slice A len cap] w fun e w' => e = .returned (.bool true) ∧ Below w.heap.size w w' := by
  have b1 := Int.emod_nonneg d0 (show (40 : Int) ≠ 0 by omega)
  have b2 := Int.emod_lt_of_pos d0 (show (0 : Int) < 40 by omega)
  have WI := Lib.hid (fun W => within_any d0 40 (by omega) (by omega) W)
  obtain ⟨q, hq⟩ : ∃ q : Nat, d0 % 40 = q := ⟨(d0 % 40).toNat, by omega⟩
  rw [hq] at WI b1 b2
  have hq40 : q < 40 := by omega
  unfold maxLen at hl
  have S := Lib.hid hs
  have HG := Lib.hid hg
  have hgl : 0 < w.heap.size := cell_lt hg
  have AW := Lib.hid awake_any
  have NP := Lib.hid (fun x W (hx : x = ((q + 1 : Nat) : Int)) => (by rw [hx]; exact memNew (q + 1) (by omega) (by omega) W : Calls Tryd.prog 8 #[.int .i64 x] W (NewPost (q + 1) W)))
  have NR := Lib.hid (fun x W (hx : x = ((q + 1 : Nat) : Int)) => (by rw [hx]; exact refNew (q + 1) (by omega) (by omega) W : Calls Tryd.prog 9 #[.int .i64 x] W (RefNewPost (q + 1) W)))
  clear hs hg hq b1 b2 _w0
  go_enter Tryd.func3, Tryd.ntmps3
  go_wp2_with (go_at_call 7; refine (WI.out _).mono ?_; rintro e w' ⟨rfl, rfl⟩)
  go_at_call 8
  refine (NP.out _ _ (by omega)).mono ?_
  rintro e w1 ⟨b, bc, rfl, hm, hb, hb1, hb2⟩
  have M := Lib.hid hm
  clear hm
  go_wp2_with fail
  go_at_call 9
  refine (NR.out _ _ (by omega)).mono ?_
  rintro e w2 ⟨r, bw, bh, rfl, hr, hbr, hr1, hr2, hr3⟩
  have hB := both_new M.out (errType_below hb HG.out hgl) (by omega) (by omega) hr hbr hr1 hr2 hr3 (by omega)
  have B0 := Lib.hid hB
  have hbw : Below w.heap.size w w2 := hb.trans (hbr.mono hb.size)
  have hsz := hb.size
  clear hr hB M
  go_wp2_with fail
  go_loopw [10] (fun vi wr => ∃ (i : Nat) (mi : Cells), i ≤ len ∧ i ≤ 60 ∧ vi = .int .i64 i ∧ mi.ws.length = q + 1 ∧ 0 ≤ mi.n ∧ mi.n ≤ i ∧ Both wr b bc r bw bh mi ∧ Below w.heap.size w wr) (fun vi _ => len - (intOf vi).toNat)
  case atStart => exact ⟨0, _, by omega, by omega, rfl, by simp, by simp, by simp, B0.out, hbw⟩
  case round =>
    obtain ⟨i, mi, hi, hi60, rfl, li, n0, n1, hbt, hbl⟩ := hrel
    by_cases hlt : i < len ∧ i < 60
    · obtain ⟨hlt1, hlt2⟩ := hlt
      obtain ⟨p, rfl, hp, d, a, n, k, ad, old, v, ⟨f0, f1, f2, f3, f4, f5, f6⟩, ra0, ra1, rn, rad, ro0, ro1, rv0, rv1⟩ := S.out i hlt1
      have pb : (p.add (i * 7)).block < w.heap.size := by rw [ChangeShapes.block_add]; exact hp
      have f0 : wr.cell? (p.add (i * 7)) = some (.int .i64 d) := by rw [hbl.cell pb]; exact f0
      have f1 : wr.cell? ⟨(p.add (i * 7)).block, (p.add (i * 7)).off + 1, none⟩ = some (.int .i64 a) := by rw [hbl.cell (p := ⟨_, _, none⟩) pb]; exact f1
      have f2 : wr.cell? ⟨(p.add (i * 7)).block, (p.add (i * 7)).off + 2, none⟩ = some (.int .i64 n) := by rw [hbl.cell (p := ⟨_, _, none⟩) pb]; exact f2
      have f3 : wr.cell? ⟨(p.add (i * 7)).block, (p.add (i * 7)).off + 3, none⟩ = some (.int .i64 k) := by rw [hbl.cell (p := ⟨_, _, none⟩) pb]; exact f3
      have f4 : wr.cell? ⟨(p.add (i * 7)).block, (p.add (i * 7)).off + 4, none⟩ = some (.int .u64 ad) := by rw [hbl.cell (p := ⟨_, _, none⟩) pb]; exact f4
      have f5 : wr.cell? ⟨(p.add (i * 7)).block, (p.add (i * 7)).off + 5, none⟩ = some (.int .u64 old) := by rw [hbl.cell (p := ⟨_, _, none⟩) pb]; exact f5
      have f6 : wr.cell? ⟨(p.add (i * 7)).block, (p.add (i * 7)).off + 6, none⟩ = some (.int .u64 v) := by rw [hbl.cell (p := ⟨_, _, none⟩) pb]; exact f6
      have DO := Lib.hid (do_any hbt d a n k ad old v n0 (by omega) rad ra0 ra1 rn ro0 ro1 rv0 rv1)
      have LI := Lib.hid li
      have HL := Lib.hid hbl
      have nb := hbt.p.top.lt
      have nI : Hid (∀ x ∈ allB b bc r bw bh, w.heap.size ≤ x) := by
        intro x hx
        simp at hx
        omega
      clear hbt li hbl pb
      go_wp2_with fail
      go_at_call 10
      refine DO.out.mono ?_
      rintro e w3 ⟨rfl, m3, l3, p3, q3, hb3, ho3⟩
      have B3 := Lib.hid hb3
      have L3 := Lib.hid (l3.trans LI.out)
      have HL3 := Lib.hid (HL.out.trans (ho3.below nI.out HL.out.size))
      clear hb3 l3 ho3
      go_wp2_with fail
      go_roundw
      case rel => exact ⟨i + 1, m3, by omega, by omega, by go_num, L3.out, by omega, by omega, B3.out, HL3.out⟩
      case measure => simp [intOf]; omega
    · have nI : Hid (∀ x ∈ allB b bc r bw bh, w.heap.size ≤ x) := by
        intro x hx
        simp at hx
        omega
      have SM := Lib.hid (sameMem_any hbt n0 (by omega) (by omega))
      have HL := Lib.hid hbl
      have hexit : len ≤ i ∨ (i < len ∧ 60 ≤ i) := by omega
      clear hlt hbt hbl li
      rcases hexit with he | ⟨he, he2⟩
      all_goals (
        go_wp2_with fail
        go_at_call 11
        refine SM.out.mono ?_
        rintro e w3 ⟨rfl, ho3⟩
        have HL3 := Lib.hid (HL.out.trans (ho3.below nI.out HL.out.size))
        clear ho3
        go_wp2_with fail
        go_at_call 12
        refine (AW.out _).mono ?_
        rintro e w4 ⟨rfl, hb4⟩
        go_wp2_with fail
        go_ret
        exact ⟨rfl, HL3.out.trans (hb4.mono HL3.out.size)⟩)
end Go.Proofs.YtdnamjlknmcdjaaDoor
