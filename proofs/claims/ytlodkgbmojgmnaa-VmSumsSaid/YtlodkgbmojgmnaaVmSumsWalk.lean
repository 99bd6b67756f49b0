/- The walk of VmSums: it returns true; of what was there nothing has turned. No condition. -/
import Derived.Test.YtlodkgbmojgmnaaVmAwake
import Derived.Test.YtlodkgbmojgmnaaVmStepB
import Derived.Test.YtlodkgbmojgmnaaLawClose
namespace Go.Proofs.Ytlodkgbmojgmnaa
open Go.RowKit
set_option linter.unusedVariables false
set_option linter.unusedSimpArgs false

/-- The loop's code; its registers. -/
def suC (n : Int) : List Inst := [⟨1, 1, 0, 0, n, 0, 0⟩, ⟨3, 2, 2, 1, 0, 0, 0⟩, ⟨4, 1, 1, -1, 1, 0, 0⟩, ⟨14, 1, 0, 0, 1, 0, 0⟩, ⟨16, 0, 0, 0, 0, 0, 0⟩]
def suR (a s : Int) : List Int := ((List.replicate 32 0).set 1 a).set 2 s
def suS (n : Int) : Nat → Int
  | 0 => 0
  | j + 1 => suS n j + (n - j)
theorem suS_range (n : Nat) (hn : n ≤ 50) : ∀ j, j ≤ n → 0 ≤ suS n j ∧ suS n j ≤ 50 * j
  | 0, _ => by simp [suS]
  | j + 1, h => by
    have := suS_range n hn j (by omega)
    rw [suS]; omega
theorem suS_fin : ∀ n : Fin 51, suS n.1 n.1 = (n.1 * (n.1 + 1) : Nat) / 2 := by decide
/-- Where the loop is behind i steps. -/
inductive SuAt (n : Nat) : Nat → Frm → Prop
  | start : SuAt n 0 ⟨0, suR 0 0, []⟩
  | head (j : Nat) : j ≤ n → SuAt n (1 + 3 * j) ⟨if j = n then 4 else 1, suR ((n : Int) - j) (suS n j), []⟩
  | added (j : Nat) : j < n → SuAt n (2 + 3 * j) ⟨2, suR ((n : Int) - j) (suS n (j + 1)), []⟩
  | less (j : Nat) : j < n → SuAt n (3 + 3 * j) ⟨3, suR ((n : Int) - j - 1) (suS n (j + 1)), []⟩
theorem su_get1 (a s : Int) : (suR a s).getD 1 0 = a := rfl
theorem su_get2 (a s : Int) : (suR a s).getD 2 0 = s := rfl
theorem su_set1 (a s y : Int) : (suR a s).set 1 y = suR y s := rfl
theorem su_set2 (a s y : Int) : (suR a s).set 2 y = suR a y := rfl
theorem su_ok (a s pc : Int) (a0 : 0 ≤ a) (a1 : a ≤ 18446744073709551615) (s0 : 0 ≤ s) (s1 : s ≤ 18446744073709551615) : FrmOk ⟨pc, suR a s, []⟩ :=
  frmOk_of_all (by simp [suR, a0, a1, s0, s1, List.replicate]) (by simp)
theorem su_code (n : Nat) (hn : n ≤ 50) (i : Nat) (h : i < (suC n).length) : InsOk ((suC n).getD i inst0) := by
  have h5 : i < 5 := h
  match i, h5 with
  | 0, _ => exact ⟨by show (0 : Int) ≤ n; omega, by show (n : Int) ≤ _; omega⟩
  | 1, _ | 2, _ | 3, _ | 4, _ => exact ⟨by simp [suC], by simp [suC]⟩
theorem su_in {W : World} {b : Nat} {N : List Nat} {A : Option Addr} {cap : Nat} {C : Option Addr} (n : Nat) (hn : n ≤ 50) (k : Nat) (hk : k < 5) (x : Inst) (hx : (suC n).getD k inst0 = x) (a s : Int) (h : FrameIn W b N ⟨k, suR a s, []⟩ A cap) (hc : InsIn W C (suC n))
    (a0 : 0 ≤ a) (a1 : a ≤ 18446744073709551615) (s0 : 0 ≤ s) (s1 : s ≤ 18446744073709551615) : StepIn W b N ⟨k, suR a s, []⟩ A cap C (suC n) k x :=
  ⟨h, su_ok a s _ a0 a1 s0 s1, hc, rfl, hk, by show 5 ≤ _; omega, hx, by rw [← hx]; exact su_code n hn k hk⟩
/-- What a step of the loop leaves. -/
def SuPost (n i b : Nat) (N : List Nat) (w : World) (e : Ending) (w' : World) : Prop := e = .returned (.tuple #[.int .i64 0, .nilIface]) ∧ (∃ f, SuAt n i f ∧ FrameAt w' b N f) ∧ Only [b] w w'
theorem su_ok0 (n : Int) (l : Int) (hl : l = 5) : okB ⟨1, (1 : Nat), 0, 0, n, 0, 0⟩ l = true := by
  rw [ok_eq]; subst hl; simp [fieldA, fieldB, fieldC, fieldV, usesV, shapeOf, shpTab, regB]
theorem su_step {W : World} {b : Nat} {N : List Nat} {A : Option Addr} {cap : Nat} {C : Option Addr} (n : Nat) (hn1 : 1 ≤ n) (hn : n ≤ 50) (i : Nat) (hi : i < 1 + 3 * n) (f : Frm) (hf : SuAt n i f) (h : FrameIn W b N f A cap) (hc : InsIn W C (suC n)) (M : Value) :
    Calls Try.prog 15 #[.pointer (some ⟨b, 0, none⟩), .slice C 5 5, M] W (SuPost n (i + 1) b N W) := by
  have fin : ∀ f', SuAt n (i + 1) f' → ∀ e w', WentPost b N f' [b] W e w' → SuPost n (i + 1) b N W e w' := fun f' h' e w' hp => ⟨hp.1, ⟨f', h', hp.2.1⟩, hp.2.2⟩
  cases hf with
  | start =>
    have := step_set (su_in n hn 0 (by omega) ⟨1, (1 : Nat), 0, 0, n, 0, 0⟩ rfl 0 0 h hc (by omega) (by omega) (by omega) (by omega)) (su_ok0 n _ rfl) 5 M (by decide) (by decide)
    refine this.mono (fin _ ?_)
    rw [res1, su_set1]
    have k := SuAt.head (n := n) 0 (by omega)
    rw [if_neg (by omega)] at k
    simpa [suS] using k
  | head j hj =>
    have hjn : j < n := by omega
    have r0 := suS_range n hn j (by omega)
    have hp : FrameIn W b N ⟨(1 : Nat), suR ((n : Int) - j) (suS n j), []⟩ A cap := by rw [if_neg (by omega)] at h; exact h
    have := step_set (su_in n hn 1 (by omega) ⟨3, (2 : Nat), 2, 1, 0, 0, 0⟩ rfl _ _ hp hc (by omega) (by omega) (by omega) (by omega)) (by kernel_rfl) 5 M (by decide) (by decide)
    refine this.mono (fin _ ?_)
    have e : resP 3 0 (regV ⟨(1 : Nat), suR ((n : Int) - j) (suS n j), []⟩ 2) (valP ⟨(1 : Nat), suR ((n : Int) - j) (suS n j), []⟩ ⟨3, (2 : Nat), 2, 1, 0, 0, 0⟩) = suS n (j + 1) := by
      rw [res3, summ_wide]
      show (suS n j + ((n : Int) - j)) % 18446744073709551616 = _
      rw [suS]; omega
    rw [e, su_set2]
    have k := SuAt.added (n := n) j hjn
    rw [show 1 + 3 * j + 1 = 2 + 3 * j by omega]
    exact k
  | added j hj =>
    have r0 := suS_range n hn (j + 1) (by omega)
    have := step_set (su_in n hn 2 (by omega) ⟨4, (1 : Nat), 1, -1, 1, 0, 0⟩ rfl _ _ h hc (by omega) (by omega) (by omega) (by omega)) (by kernel_rfl) 5 M (by decide) (by decide)
    refine this.mono (fin _ ?_)
    have e : resP 4 1 (regV ⟨(2 : Nat), suR ((n : Int) - j) (suS n (j + 1)), []⟩ 1) (valP ⟨(2 : Nat), suR ((n : Int) - j) (suS n (j + 1)), []⟩ ⟨4, (1 : Nat), 1, -1, 1, 0, 0⟩) = (n : Int) - j - 1 := by
      have e0 : resP 4 1 (regV ⟨(2 : Nat), suR ((n : Int) - j) (suS n (j + 1)), []⟩ 1) (valP ⟨(2 : Nat), suR ((n : Int) - j) (suS n (j + 1)), []⟩ ⟨4, (1 : Nat), 1, -1, 1, 0, 0⟩) = ((n : Int) - j - 1) % 18446744073709551616 := rfl
      rw [e0]; omega
    rw [e, su_set1]
    have k := SuAt.less (n := n) j hj
    rw [show 2 + 3 * j + 1 = 3 + 3 * j by omega]
    exact k
  | less j hj =>
    have r0 := suS_range n hn (j + 1) (by omega)
    have := step_jump (su_in n hn 3 (by omega) ⟨14, (1 : Nat), 0, 0, 1, 0, 0⟩ rfl _ _ h hc (by omega) (by omega) (by omega) (by omega)) (by kernel_rfl) 5 M (by decide) (by decide) (by show (1 : Int) < 5; decide)
    refine this.mono (fin _ ?_)
    have k := SuAt.head (n := n) (j + 1) (by omega)
    rw [show 3 + 3 * j + 1 = 1 + 3 * (j + 1) by omega]
    have ej : jumpP 14 ((suR ((n : Int) - j - 1) (suS n (j + 1))).getD 1 0) = !decide (j + 1 = n) := by
      rw [su_get1]
      show (!((n : Int) - j - 1 == 0)) = _
      congr 1
      rw [Bool.eq_iff_iff]; simp; omega
    have en : (n : Int) - ((j + 1 : Nat) : Int) = (n : Int) - j - 1 := by omega
    rw [en] at k
    show SuAt n (1 + 3 * (j + 1)) ⟨if jumpP 14 ((suR ((n : Int) - j - 1) (suS n (j + 1))).getD 1 0) = true then 1 else ((3 : Nat) : Int) + 1, suR ((n : Int) - j - 1) (suS n (j + 1)), []⟩
    rw [ej]
    by_cases hq : j + 1 = n
    · rw [if_pos hq] at k; simpa [hq] using k
    · rw [if_neg hq] at k; simpa [hq] using k
theorem su_end (n : Nat) (f : Frm) (h : SuAt n (1 + 3 * n) f) : f = ⟨4, suR 0 (suS n n), []⟩ := by
  generalize hi : 1 + 3 * n = i at h
  cases h with
  | start => omega
  | head j hj =>
    obtain rfl : j = n := by omega
    rw [if_pos rfl, show (j : Int) - j = 0 by omega]
  | added j hj => omega
  | less j hj => omega
theorem su_last {W : World} {b : Nat} {N : List Nat} {A : Option Addr} {cap : Nat} {C : Option Addr} (n : Nat) (hn : n ≤ 50) (h : FrameIn W b N ⟨4, suR 0 (suS n n), []⟩ A cap) (hc : InsIn W C (suC n)) (M : Value) :
    Calls Try.prog 15 #[.pointer (some ⟨b, 0, none⟩), .slice C 5 5, M] W (WrongPost 2 W) := by
  have r0 := suS_range n hn n (by omega)
  exact step_ret0 (su_in n hn 4 (by omega) ⟨16, 0, 0, 0, 0, 0, 0⟩ rfl _ _ h hc (by omega) (by omega) (by omega) (by omega)) (by kernel_rfl) 5 M rfl rfl
theorem su_lit (n : Int) : (flatIns (suC n)).toArray = #[.int .i64 1, .int .i64 1, .int .i64 0, .int .i64 0, .int .u64 n, .int .i64 0, .int .i64 0, .int .i64 3, .int .i64 2, .int .i64 2, .int .i64 1, .int .u64 0, .int .i64 0, .int .i64 0,
  .int .i64 4, .int .i64 1, .int .i64 1, .int .i64 (-1), .int .u64 1, .int .i64 0, .int .i64 0, .int .i64 14, .int .i64 1, .int .i64 0, .int .i64 0, .int .u64 1, .int .i64 0, .int .i64 0, .int .i64 16, .int .i64 0, .int .i64 0, .int .i64 0, .int .u64 0, .int .i64 0, .int .i64 0] := by kernel_rfl

set_option maxHeartbeats 8000000 in
set_option maxRecDepth 100000 in
theorem vmSums_walk (d : Int) (wd : (Lit.int .u64 d).wf = true) (w : World) : Calls Try.prog 6 #[.int .u64 d] w fun e w' => e = .returned (.bool true) ∧ Below w.heap.size w w' := by
  obtain ⟨d0, d1⟩ := u64_wf wd
  have b1 := Int.emod_nonneg d (show (50 : Int) ≠ 0 by omega)
  have b2 := Int.emod_lt_of_pos d (show (0 : Int) < 50 by omega)
  obtain ⟨n, hn⟩ : ∃ n : Nat, 1 + d % 50 = n := ⟨(1 + d % 50).toNat, by omega⟩
  have hn1 : 1 ≤ n := by omega
  have hn2 : n ≤ 50 := by omega
  have HN := Lib.hid hn
  have r0 := suS_range n hn2 n (Nat.le_refl n)
  have hfin := suS_fin ⟨n, by omega⟩
  simp only at hfin
  clear wd b1 b2 hn
  go_enter Try.func6, Try.ntmps6
  go_upto_region 2 with fail
  rw [HN.out]
  obtain ⟨g, hg⟩ : ∃ g, g = w.heap.size := ⟨_, rfl⟩
  obtain ⟨w1, hw1⟩ : ∃ w1, w1 = w.alloc (.cells (flatIns (suC n)).toArray 24) := ⟨_, rfl⟩
  have C1 : InsIn w1 (some ⟨g, 0, none⟩) (suC n) := by rw [hw1, hg]; exact insIn_new w _ _
  have B1 : Below w.heap.size w w1 := by rw [hw1]; exact (Below.refl _ _).alloc (Nat.le_refl _) _
  have z1 : w1.heap.size = g + 1 := by rw [hw1, hg]; simp
  obtain ⟨w2, hw2⟩ : ∃ w2, w2 = w1.alloc (.cells (emptyCs 0).toArray 35) := ⟨_, rfl⟩
  have F2 := Lib.hid (show FrameIn w2 (g + 1) [] ⟨0, List.replicate 32 0, []⟩ none 0 by rw [hw2]; exact frame_empty w1 (g + 1) [] 0 _ z1.symm)
  have C2 := Lib.hid (show InsIn w2 (some ⟨g, 0, none⟩) (suC n) by rw [hw2]; exact C1.below ((Below.refl _ _).alloc (Nat.le_refl _) _))
  have B2 := Lib.hid (show Below w.heap.size w w2 by rw [hw2]; exact B1.alloc B1.size _)
  have HW1 := Lib.hid hw1
  have HW2 := Lib.hid hw2
  have HG := Lib.hid hg
  have HZ1 := Lib.hid z1
  clear hg hw1 hw2 C1 B1 z1
  go_cut [0, 2, 3] from 3 to 76 (fun s0 s2 s3 w' => s0 = .int .u64 n ∧ s2 = .bool false ∧ s3 = .slice (some ⟨g, 0, none⟩) 5 5 ∧ w1 = w')
  case first =>
    go_wp2_with fail
    go_meet
    exact ⟨rfl, rfl, by rw [HG.out], by rw [HW1.out, su_lit]⟩
  case rest =>
  obtain ⟨rfl, rfl, rfl, rfl⟩ := hcut
  clear HW1
  go_upto_region 3 with fail
  go_cut [0, 2, 3, 4] from 4 to 76 (fun s0 s2 s3 s4 w' => s0 = .int .u64 n ∧ s2 = .bool false ∧ s3 = .slice (some ⟨g, 0, none⟩) 5 5 ∧ s4 = .pointer (some ⟨g + 1, 0, none⟩) ∧ w2 = w')
  case first =>
    go_wp2_with fail
    go_meet
    exact ⟨rfl, rfl, rfl, by rw [HZ1.out], HW2.out⟩
  case rest =>
  obtain ⟨rfl, rfl, rfl, rfl, rfl⟩ := hcut
  clear HW2 HZ1
  have q1 := err_nil
  have q2 := err_eql_nil
  go_wp2_with fail
  go_loopw [5] (fun vi wr => ∃ (i : Nat) (f : Frm), i ≤ 1 + 3 * n ∧ vi = .int .u64 i ∧ SuAt n i f ∧ FrameAt wr (g + 1) [] f ∧ InsIn wr (some ⟨g, 0, none⟩) (suC n) ∧ Below w.heap.size w wr) (fun vi _ => 1 + 3 * n - (intOf vi).toNat)
  case atStart => exact ⟨0, _, by omega, rfl, SuAt.start, ⟨_, _, F2.out⟩, C2.out, B2.out⟩
  case round =>
    obtain ⟨i, f, hi, rfl, ha, ⟨A, cap, hf⟩, hc, hbl⟩ := hrel
    by_cases hlt : i < 1 + 3 * n
    · have ST := Lib.hid (su_step n hn1 hn2 i hlt f ha hf hc .nilIface)
      have HC := Lib.hid hc
      have HB := Lib.hid hbl
      have hlt2 : (i : Int) < 1 + 3 * (n : Int) := by omega
      clear ha hf hc hbl
      go_wp2_with fail
      go_at_call 15
      refine ST.out.mono ?_
      rintro e w3 ⟨rfl, ⟨f', ha, hf⟩, ho⟩
      have K1 := Lib.hid ha
      have K2 := Lib.hid hf
      have K3 := Lib.hid (HC.out.only ho (fun a h => by cases h; simp))
      have K4 := Lib.hid (HB.out.trans (ho.below (B := w.heap.size) (by have := HG.out; simp; omega) HB.out.size))
      clear ha hf ho ST HC HB
      go_wp2_with fail
      go_roundw
      case rel => exact ⟨i + 1, f', by omega, by go_num, K1.out, K2.out, K3.out, K4.out⟩
      case measure => simp [intOf]; omega
    · obtain rfl : i = 1 + 3 * n := by omega
      obtain rfl := su_end n f ha
      have LS := Lib.hid (su_last n hn2 hf hc .nilIface)
      have c1 := hf.reg 1 (by decide)
      have c2 := hf.reg 2 (by decide)
      simp only [su_get1, su_get2, Nat.reduceAdd] at c1 c2
      have HF := Lib.hid hf
      have HB := Lib.hid hbl
      have hge : ¬ ((1 + 3 * n : Nat) : Int) < 1 + 3 * (n : Int) := by omega
      obtain ⟨S, hS⟩ : ∃ S, S = suS n n := ⟨_, rfl⟩
      rw [← hS] at c2 hfin r0
      clear ha hf hc hbl c1 c2
      go_wp2_with fail
      go_at_call 15
      refine LS.out.mono ?_
      rintro e w3 ⟨rfl, hb3⟩
      have F3 := HF.out.below hb3
      have c1 := F3.reg 1 (by decide)
      have c2 := F3.reg 2 (by decide)
      simp only [su_get1, su_get2, Nat.reduceAdd] at c1 c2
      rw [← hS] at c2
      have HB3 := Lib.hid (HB.out.trans (hb3.mono HB.out.size))
      have AW := Lib.hid (vawake_any w3)
      have HS := Lib.hid hS
      have hm : n * (n + 1) ≤ 2550 := by
        have h1 := Nat.mul_le_mul hn2 (show n + 1 ≤ 51 by omega)
        omega
      have hcast : ((n * (n + 1) : Nat) : Int) = (n : Int) * ((n : Int) + 1) := by simp
      obtain ⟨T, hT⟩ : ∃ T : Int, T = (n : Int) * ((n : Int) + 1) := ⟨_, rfl⟩
      have hT0 : 0 ≤ T ∧ T ≤ 2550 := by omega
      have qT : (S == T / 2) = true := by simp; omega
      have wT : IntKind.u64.wrap ((n : Int) * ((n : Int) + 1)) = T := by rw [← hT, IntKind.wrap_u64]; omega
      obtain ⟨t0, t1⟩ := hT0
      clear F3 hb3 LS HF HB hS hfin r0 hm hcast hT
      go_wp2_with fail
      go_at_call 12
      refine AW.out.mono ?_
      rintro e w4 ⟨rfl, hb4⟩
      have HB4 := Lib.hid (HB3.out.trans (hb4.mono HB3.out.size))
      clear hb4
      go_wp2_with fail
      go_ret
      exact ⟨rfl, HB4.out⟩
end Go.Proofs.Ytlodkgbmojgmnaa
