/- The walk of VmReturns: it returns true; of what was there nothing has turned. No condition. -/
import Derived.Test.YtlodkgbmojgmnaaVmAwake
import Derived.Test.YtlodkgbmojgmnaaVmStepR
import Derived.Test.YtlodkgbmojgmnaaKeepWithin
import Derived.Test.YtlodkgbmojgmnaaLawClose
namespace Go.Proofs.Ytlodkgbmojgmnaa
open Go.RowKit
set_option linter.unusedVariables false
set_option linter.unusedSimpArgs false

/-- A slice of these instructions, of the call's own. -/
def OwnC (W : World) (base : Nat) (v : Value) (l : List Inst) : Prop := W.ownsRow base 24 7 v l.length (flatIns l)
theorem info_rins : (Try.prog.info? 24).map (fun i => (i.zero, i.size, i.bytes)) = some (some (.agg #[.int .i64 0, .int .i64 0, .int .i64 0, .int .i64 0, .int .u64 0, .int .i64 0, .int .i64 0]), 7, 56) := by kernel_rfl
theorem run_addIns {W : World} {base : Nat} {v : Value} {l : List Inst} (h : OwnC W base v l) (hl : l.length ≤ 100) (hb : base ≤ W.heap.size) (x : Inst) (cs : Array Value) (hc : cs = x.vs.toArray) :
    ∃ v' W2, (Builtin.append_ #[39, 39] 39 #[v, .slice (some ⟨W.heap.size, 0, none⟩) 1 1]).run Try.prog (W.alloc (.cells cs 24)) = .ok v' W2 ∧ OwnC W2 base v' (l ++ [x]) ∧ Below base W W2 := by
  subst hc
  obtain ⟨i0, hi0, hz0, hz1, hz2⟩ := info_parts info_rins
  have h1 := h.alloc (.cells x.vs.toArray 24)
  obtain ⟨v', W2, hr, ho, hg, _, _⟩ := run_append_own_at (P := Try.prog) (w := W.alloc (.cells x.vs.toArray 24)) base 39 39 24 i0 _ 7 56 Try.underlying39 hi0 hz0 hz1 hz2 (by simp [Value.cells]) (by omega) v l.length _ h1 ⟨W.heap.size, 0, none⟩ 1 1 x.vs rfl
    (fun j u hu => by
      have e0 : (⟨W.heap.size, 0, none⟩ : Addr).add j = ⟨W.heap.size, j, none⟩ := Addr.add_mid _ _ _ |>.trans (by simp)
      rw [e0, World.cell?_alloc_at _ _ _ _ rfl]
      simpa using hu) (fun u hu => flatIns_one [x] u (by simpa [flatIns] using hu)) (by simp only [maxLen]; omega) (by omega) (by simp; omega)
  refine ⟨v', W2, hr, ?_, ((Below.refl base W).alloc hb _).grown hg (by simp; omega) (fun j hj => (h1.lt j hj).1)⟩
  unfold OwnC
  have e : flatIns (l ++ [x]) = flatIns l ++ x.vs := by simp [flatIns]
  rw [e, List.length_append]
  exact ho
theorem OwnC.insIn {W : World} {base : Nat} {v : Value} {l : List Inst} (h : OwnC W base v l) (hl : 0 < l.length) : ∃ g c, v = .slice (some ⟨g, 0, none⟩) l.length c ∧ InsIn W (some ⟨g, 0, none⟩) l ∧ base ≤ g ∧ g < W.heap.size := by
  have hc := fun (g : Nat) (hg : v.ownBlock = some g) => World.ownsRow.cells h hg
  have hlt := h.lt
  rcases h.2 with ⟨hv, hn⟩ | ⟨g, cap, cur, hv, hb, hg, hnc, _, _, _⟩
  · omega
  · subst hv
    have hl2 := (hlt g rfl).2
    refine ⟨g, cap, rfl, insIn_of_block hl2 (fun j u hu => ?_), hb, hl2⟩
    have := hc g rfl j u hu
    rw [Addr.add_mid] at this
    simpa using this
/-- The code under way; whole; the return places. -/
def rtJ (i : Nat) : List Inst := (List.range i).map fun j => ⟨15, 0, 0, 0, ((j + 1 : Nat) : Int), 0, 0⟩
def rtC (n : Nat) : List Inst := rtJ n ++ [⟨16, 0, 0, 0, 0, 0, 0⟩]
def rtB (i : Nat) : List Int := (List.range i).map fun j => ((j + 1 : Nat) : Int)
def rtR : List Int := (List.replicate 32 0).set 5 77
theorem rtJ_succ (i : Nat) : rtJ (i + 1) = rtJ i ++ [⟨15, 0, 0, 0, ((i + 1 : Nat) : Int), 0, 0⟩] := by simp [rtJ, List.range_succ]
theorem rtB_succ (i : Nat) : rtB (i + 1) = rtB i ++ [(i : Int) + 1] := by simp [rtB, List.range_succ]
theorem rtJ_len (i : Nat) : (rtJ i).length = i := by simp [rtJ]
theorem rtB_len (i : Nat) : (rtB i).length = i := by simp [rtB]
theorem rtC_len (n : Nat) : (rtC n).length = n + 1 := by simp [rtC, rtJ]
theorem rtC_at (n k : Nat) (h : k < n) : (rtC n).getD k inst0 = ⟨15, 0, 0, 0, ((k + 1 : Nat) : Int), 0, 0⟩ := by
  have : k < (rtJ n).length := by rw [rtJ_len]; exact h
  simp only [rtC, List.getD, List.getElem?_append_left this]
  simp [rtJ, h]
theorem rtC_last (n : Nat) : (rtC n).getD n inst0 = ⟨16, 0, 0, 0, 0, 0, 0⟩ := by
  simp only [rtC, List.getD]
  rw [List.getElem?_append_right (by rw [rtJ_len]; omega), rtJ_len]; simp
theorem rt_frm (pc : Int) (i : Nat) (h : i ≤ 8) : FrmOk ⟨pc, rtR, rtB i⟩ := frmOk_of_all (by show (rtR.all _) = true; kernel_rfl) (by rw [rtB_len]; exact h)
theorem rt_ok15 (n k : Nat) (h : k < n) : okB ⟨15, 0, 0, 0, ((k + 1 : Nat) : Int), 0, 0⟩ (rtC n).length = true := by
  rw [ok_eq, rtC_len]; simp [fieldA, fieldB, fieldC, fieldV, usesV, shapeOf, shpTab, regB]; omega
theorem rt_ok16 (n : Int) : okB ⟨16, 0, 0, 0, 0, 0, 0⟩ n = true := by
  rw [ok_eq]; simp [fieldA, fieldB, fieldC, fieldV, usesV, shapeOf, shpTab, regB]
section
variable {W : World} {b n : Nat} {A : Option Addr} {cap : Nat} {C : Option Addr}
theorem rt_in (hn : n ≤ 10) (k i : Nat) (x : Inst) (hk : k < n + 1) (hi : i ≤ 8) (hx : (rtC n).getD k inst0 = x) (hv : InsOk x) (h : FrameIn W b [] ⟨k, rtR, rtB i⟩ A cap) (hc : InsIn W C (rtC n)) : StepIn W b [] ⟨k, rtR, rtB i⟩ A cap C (rtC n) k x :=
  ⟨h, rt_frm _ i hi, hc, rfl, by rw [rtC_len]; exact hk, by rw [rtC_len]; omega, hx, hv⟩
theorem rt_jsr (hn : n ≤ 10) (k : Nat) (hk : k < n) (hk8 : k < 8) (capC : Nat) (h : FrameIn W b [] ⟨k, rtR, rtB k⟩ A cap) (hc : InsIn W C (rtC n)) :
    Calls Try.prog 15 #[.pointer (some ⟨b, 0, none⟩), .slice C (rtC n).length capC, .nilIface] W (WentPost b [] ⟨((k + 1 : Nat) : Int), rtR, rtB (k + 1)⟩ [b] W) := by
  have := step_jsr (rt_in hn k k _ (by omega) (by omega) (rtC_at n k hk) ⟨by show (0 : Int) ≤ ((k + 1 : Nat) : Int); omega, by show ((k + 1 : Nat) : Int) ≤ _; omega⟩ h hc) (rt_ok15 n k hk) capC .nilIface rfl rfl (by rw [rtC_len]; omega) (by show (rtB k).length < 8; rw [rtB_len]; exact hk8) (Lib.hid (fun k hk => by simp at hk))
  rw [rtB_succ]
  exact this
theorem rt_jsr8 (hn : n ≤ 10) (hk : 8 < n) (capC : Nat) (h : FrameIn W b [] ⟨(8 : Nat), rtR, rtB 8⟩ A cap) (hc : InsIn W C (rtC n)) :
    Calls Try.prog 15 #[.pointer (some ⟨b, 0, none⟩), .slice C (rtC n).length capC, .nilIface] W (WrongPost 3 W) :=
  step_jsr8 (rt_in hn 8 8 _ (by omega) (by omega) (rtC_at n 8 hk) ⟨by decide, by decide⟩ h hc) (rt_ok15 n 8 hk) capC .nilIface rfl (by decide)
theorem rt_ret (hn : n ≤ 8) (i : Nat) (hi : i < n) (capC : Nat) (h : FrameIn W b [] ⟨n, rtR, rtB (i + 1)⟩ A cap) (hc : InsIn W C (rtC n)) :
    Calls Try.prog 15 #[.pointer (some ⟨b, 0, none⟩), .slice C (rtC n).length capC, .nilIface] W (WentPost b [] ⟨((i + 1 : Nat) : Int), rtR, rtB i⟩ [b] W) := by
  have := step_ret (rt_in (by omega) n (i + 1) _ (by omega) (by omega) (rtC_last n) ⟨by decide, by decide⟩ h hc) (rt_ok16 _) capC .nilIface i rfl (by show (rtB (i + 1)).length = i + 1; rw [rtB_len]) (Lib.hid (fun k hk => by simp at hk))
  have e1 : (rtB (i + 1)).getD i 0 = ((i + 1 : Nat) : Int) := by simp [rtB]
  have e2 : (rtB (i + 1)).take i = rtB i := by rw [rtB_succ, List.take_append_of_le_length (by rw [rtB_len]; omega), List.take_of_length_le (by rw [rtB_len]; omega)]
  have e : (⟨(rtB (i + 1)).getD i 0, rtR, (rtB (i + 1)).take i⟩ : Frm) = ⟨((i + 1 : Nat) : Int), rtR, rtB i⟩ := by rw [e1, e2]
  rw [e] at this
  exact this
theorem rt_home (hn : n ≤ 10) (capC : Nat) (h : FrameIn W b [] ⟨n, rtR, rtB 0⟩ A cap) (hc : InsIn W C (rtC n)) :
    Calls Try.prog 15 #[.pointer (some ⟨b, 0, none⟩), .slice C (rtC n).length capC, .nilIface] W (WrongPost 2 W) :=
  step_ret0 (rt_in hn n 0 _ (by omega) (by omega) (rtC_last n) ⟨by decide, by decide⟩ h hc) (rt_ok16 _) capC .nilIface rfl rfl
end

set_option maxHeartbeats 8000000 in
set_option maxRecDepth 100000 in
theorem vmReturns_walk (d : Int) (wd : (Lit.int .i64 d).wf = true) (w : World) : Calls Try.prog 5 #[.int .i64 d] w fun e w' => e = .returned (.bool true) ∧ Below w.heap.size w w' := by
  have b1 := Int.emod_nonneg d (show (11 : Int) ≠ 0 by omega)
  have b2 := Int.emod_lt_of_pos d (show (0 : Int) < 11 by omega)
  have WI := Lib.hid (fun W => within_any d 11 (by omega) (by omega) W)
  obtain ⟨n, hn⟩ : ∃ n : Nat, d % 11 = n := ⟨(d % 11).toNat, by omega⟩
  rw [hn] at WI b1 b2
  have hn10 : n ≤ 10 := by omega
  have q1 := err_nil
  have q2 := err_eql_nil
  clear wd hn b1 b2
  go_enter Try.func5, Try.ntmps5
  go_wp2_with (go_at_call 14; refine (WI.out _).mono ?_; rintro e w' ⟨rfl, rfl⟩)
  go_loopw [4, 5] (fun v vi wr => ∃ i : Nat, i ≤ n ∧ vi = .int .i64 i ∧ OwnC wr w.heap.size v (rtJ i) ∧ Below w.heap.size w wr) (fun _ vi _ => n - (intOf vi).toNat)
  case atStart => exact ⟨0, by omega, rfl, World.ownsRow_nil _ _ _ _, Below.refl _ _⟩
  case round =>
    obtain ⟨i, hi, rfl, ho, hbl⟩ := hrel
    by_cases hlt : i < n
    · obtain ⟨v', w3, hr, ho3, hb3⟩ := run_addIns ho (by rw [rtJ_len]; omega) hbl.size ⟨15, 0, 0, 0, ((i + 1 : Nat) : Int), 0, 0⟩ #[.int .i64 15, .int .i64 0, .int .i64 0, .int .i64 0, .int .u64 ((i : Int) + 1), .int .i64 0, .int .i64 0] (by simp [Inst.vs])
      rw [← rtJ_succ] at ho3
      have HR := Lib.hid hr
      have O3 := Lib.hid ho3
      have B3 := Lib.hid (hbl.trans hb3)
      clear hr ho3 hb3 ho hbl
      go_wp2_with (at_builtin; refine Lib.wpList_append_run _ rfl _ _ 39 39 rfl _ _ rfl rfl _ _ HR.out ?_)
      go_roundw
      case rel => exact ⟨i + 1, by omega, by go_num, O3.out, B3.out⟩
      case measure => simp [intOf]; omega
    · obtain rfl : i = n := by omega
      obtain ⟨v', w3, hr, ho3, hb3⟩ := run_addIns ho (by rw [rtJ_len]; omega) hbl.size ⟨16, 0, 0, 0, 0, 0, 0⟩ #[.int .i64 16, .int .i64 0, .int .i64 0, .int .i64 0, .int .u64 0, .int .i64 0, .int .i64 0] (by simp [Inst.vs])
      obtain ⟨g, c, rfl, hc3, hg1, hg2⟩ := ho3.insIn (by simp)
      rw [show (rtJ i ++ [(⟨16, 0, 0, 0, 0, 0, 0⟩ : Inst)]).length = i + 1 by simp [rtJ]] at hr
      have HR := Lib.hid hr
      obtain ⟨b, hb⟩ : ∃ b, b = w3.heap.size := ⟨_, rfl⟩
      obtain ⟨w4, hw4⟩ : ∃ w4, w4 = w3.alloc (.cells (emptyCs 0).toArray 35) := ⟨_, rfl⟩
      have F4 : FrameIn w4 b [] ⟨0, List.replicate 32 0, []⟩ none 0 := by rw [hw4]; exact frame_empty w3 b [] 0 _ hb
      have B4 : Below w3.heap.size w3 w4 := by rw [hw4]; exact (Below.refl _ _).alloc (Nat.le_refl _) _
      have F5 := Lib.hid (show FrameIn (w4.setCell ⟨b, 1 + 5, none⟩ (.int .u64 77)) b [] ⟨(0 : Nat), rtR, rtB 0⟩ none 0 from F4.setReg 5 (by decide) 77)
      have C4 : InsIn w4 (some ⟨g, 0, none⟩) (rtC i) := InsIn.below hc3 B4
      have HGB := Lib.hid (show g < b by omega)
      have C5 := Lib.hid (C4.only (F := [b]) ((Only.refl [b] w4).setCell (p := ⟨b, 1 + 5, none⟩) (Or.inl (by simp)) (.int .u64 77)) (fun a h => by cases h; simp; omega))
      have HB3 := hbl.trans hb3
      have HBS := Lib.hid (show w.heap.size ≤ b by rw [hb]; exact HB3.size)
      have B5 := Lib.hid ((HB3.trans (B4.mono HB3.size)).setCell (p := ⟨b, 1 + 5, none⟩) (by rw [hb]; exact HB3.size) (.int .u64 77))
      have c5 := F4.reg 5 (by decide)
      have z5 := F4.free (1 + 5) (by decide)
      simp only [Nat.reduceAdd] at c5 z5
      have HW4 := Lib.hid hw4
      have HBE := Lib.hid hb
      clear hr ho3 hb3 ho hbl hc3 hg1 hg2 hb hw4 F4 B4 C4 HB3 hlt
      go_upto_region 8 with (at_builtin; refine Lib.wpList_append_run _ rfl _ _ 39 39 rfl _ _ rfl rfl _ _ HR.out ?_)
      go_cut [3, 4, 6] from 6 to 175 (fun s3 s4 s6 w' => s3 = .int .i64 i ∧ s4 = .slice (some ⟨g, 0, none⟩) (i + 1) c ∧ s6 = .pointer (some ⟨b, 0, none⟩) ∧ w4 = w')
      case first =>
        go_wp2_with fail
        go_meet
        exact ⟨rfl, rfl, by rw [HBE.out], HW4.out⟩
      case rest =>
      obtain ⟨rfl, rfl, rfl, rfl⟩ := hcut
      clear HW4 HBE HR
      go_wp2_with fail
      go_loopw [7] (fun vi wr => ∃ k : Nat, k ≤ i ∧ k ≤ 8 ∧ vi = .int .i64 k ∧ FrameAt wr b [] ⟨k, rtR, rtB k⟩ ∧ InsIn wr (some ⟨g, 0, none⟩) (rtC i) ∧ Below w.heap.size w wr) (fun vi _ => i - (intOf vi).toNat)
      case atStart => exact ⟨0, by omega, by omega, rfl, ⟨_, _, F5.out⟩, C5.out, B5.out⟩
      case round =>
        obtain ⟨k, hk, hk8, rfl, ⟨A, cap, hf⟩, hcc, hbl⟩ := hrel
        by_cases hlt : k < i
        · by_cases h8 : k < 8
          · have ST := Lib.hid (rt_jsr hn10 k hlt h8 c hf hcc)
            rw [rtC_len] at ST
            have HC := Lib.hid hcc
            have HB := Lib.hid hbl
            clear hf hcc hbl
            go_wp2_with fail
            go_at_call 15
            refine ST.out.mono ?_
            rintro e w5 ⟨rfl, ⟨A2, cap2, hf⟩, ho⟩
            have c0 := hf.pc
            have cb := hf.back
            rw [rtB_len] at cb
            have K1 := Lib.hid hf
            have K3 := Lib.hid (HC.out.only ho (fun a h => by cases h; have := HGB.out; simp; omega))
            have K4 := Lib.hid (HB.out.trans (ho.below (B := w.heap.size) (by have := HBS.out; simp; omega) HB.out.size))
            have c0 : w5.cell? ⟨b, 0, none⟩ = some (.int .i64 ((k : Int) + 1)) := c0
            clear hf ho ST HC HB
            go_wp2_with fail
            go_roundw
            case rel => exact ⟨k + 1, by omega, by omega, by go_num, ⟨_, _, K1.out⟩, K3.out, K4.out⟩
            case measure => simp [intOf]; omega
          · obtain rfl : k = 8 := by omega
            have ST := Lib.hid (rt_jsr8 hn10 hlt c hf hcc)
            rw [rtC_len] at ST
            have HF := Lib.hid hf
            have HB := Lib.hid hbl
            clear hf hcc hbl
            go_wp2_with fail
            go_at_call 15
            refine ST.out.mono ?_
            rintro e w5 ⟨rfl, hb5⟩
            have F6 := HF.out.below hb5
            have c0 := F6.pc
            have cb := F6.back
            rw [rtB_len] at cb
            have HB5 := Lib.hid (HB.out.trans (hb5.mono HB.out.size))
            have AW := Lib.hid (vawake_any w5)
            have c0 : w5.cell? ⟨b, 0, none⟩ = some (.int .i64 8) := c0
            clear hb5 F6 ST HF HB
            go_wp2_with fail
            go_at_call 12
            refine AW.out.mono ?_
            rintro e w6 ⟨rfl, hb6⟩
            have HB6 := Lib.hid (HB5.out.trans (hb6.mono HB5.out.size))
            clear hb6
            go_wp2_with fail
            go_ret
            exact ⟨rfl, HB6.out⟩
        · obtain rfl : k = i := by omega
          have G1 := Lib.hid hf
          have G2 := Lib.hid hcc
          have G3 := Lib.hid hbl
          clear hf hcc hbl hlt
          obtain ⟨wo, rfl⟩ : ∃ x, x = wr := ⟨_, rfl⟩
          go_wp2_with fail
          go_loopw [10] (fun vi wr => ∃ (j : Nat) (pc : Int), j ≤ k ∧ vi = .int .i64 j ∧ FrameAt wr b [] ⟨pc, rtR, rtB j⟩ ∧ InsIn wr (some ⟨g, 0, none⟩) (rtC k) ∧ Below w.heap.size w wr) (fun vi _ => (intOf vi).toNat)
          case atStart => exact ⟨k, _, by omega, rfl, ⟨_, _, G1.out⟩, G2.out, G3.out⟩
          case round =>
            obtain ⟨j, pc, hj, rfl, ⟨A, cap, hf⟩, hcc, hbl⟩ := hrel
            have c0 := hf.pc
            have z0 := hf.free 0 (by omega)
            have F7 := hf.setPc (k : Int)
            have C7 := hcc.only (F := [b]) ((Only.refl [b] wr).setCell (p := ⟨b, 0, none⟩) (Or.inl (by simp)) (.int .i64 k)) (fun a h => by cases h; have := HGB.out; simp; omega)
            have B7 := Lib.hid (hbl.setCell (p := ⟨b, 0, none⟩) HBS.out (.int .i64 k))
            have HC7 := Lib.hid C7
            by_cases hz : j = 0
            · subst hz
              have ST := Lib.hid (rt_home hn10 c F7 C7)
              rw [rtC_len] at ST
              have HF := Lib.hid F7
              clear hf hcc hbl F7 C7
              go_wp2_with fail
              go_at_call 15
              refine ST.out.mono ?_
              rintro e w5 ⟨rfl, hb5⟩
              have F8 := HF.out.below hb5
              have c0 := F8.pc
              have c5 := F8.reg 5 (by decide)
              have c0 : w5.cell? ⟨b, 0, none⟩ = some (.int .i64 k) := c0
              have c5 : w5.cell? ⟨b, 6, none⟩ = some (.int .u64 77) := c5
              have HB5 := Lib.hid (B7.out.trans (hb5.mono B7.out.size))
              have AW := Lib.hid (vawake_any w5)
              clear hb5 F8 ST HF z0
              go_wp2_with fail
              go_at_call 12
              refine AW.out.mono ?_
              rintro e w6 ⟨rfl, hb6⟩
              have HB6 := Lib.hid (HB5.out.trans (hb6.mono HB5.out.size))
              clear hb6
              go_wp2_with fail
              go_ret
              exact ⟨rfl, HB6.out⟩
            · obtain ⟨m, rfl⟩ : ∃ m, j = m + 1 := ⟨j - 1, by omega⟩
              have ST := Lib.hid (rt_ret hk8 m (by omega) c F7 C7)
              rw [rtC_len] at ST
              have hpos : (0 : Int) < (m : Int) + 1 := by omega
              clear hf hcc hbl F7 C7 hz
              go_wp2_with fail
              go_at_call 15
              refine ST.out.mono ?_
              rintro e w5 ⟨rfl, ⟨A2, cap2, hf⟩, ho⟩
              have c0 := hf.pc
              have cb := hf.back
              rw [rtB_len] at cb
              have K1 := Lib.hid hf
              have K3 := Lib.hid (HC7.out.only ho (fun a h => by cases h; have := HGB.out; simp; omega))
              have K4 := Lib.hid (B7.out.trans (ho.below (B := w.heap.size) (by have := HBS.out; simp; omega) B7.out.size))
              have c0 : w5.cell? ⟨b, 0, none⟩ = some (.int .i64 ((m : Int) + 1)) := c0
              clear hf ho ST z0
              go_wp2_with fail
              go_roundw
              case rel => exact ⟨m, _, by omega, by go_num, ⟨_, _, K1.out⟩, K3.out, K4.out⟩
              case measure => simp [intOf]
end Go.Proofs.Ytlodkgbmojgmnaa
