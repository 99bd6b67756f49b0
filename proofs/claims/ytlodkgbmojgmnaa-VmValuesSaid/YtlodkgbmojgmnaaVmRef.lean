/- The document's frame (layer 6): contracts of its reg, Value and Address; two arrays of the same words are the same. The condition: the frame lies there. -/
import Derived.Test.YtlodkgbmojgmnaaVmFrame
import Derived.Test.YtlodkgbmojgmnaaVmResult
namespace Go.Proofs.Ytlodkgbmojgmnaa
open Go.RowKit
set_option linter.unusedVariables false

set_option maxHeartbeats 400000 in
theorem rreg_any (r : Int) (w : World) : Calls Try.prog 17 #[.int .i64 r] w fun e w' => e = .returned (.bool (regB r)) ∧ w = w' := by
  by_cases h0 : 0 ≤ r
  · by_cases h1 : r < 32
    · rw [show regB r = true by simp [regB, h0, h1]]
      go_enter Try.func17, Try.ntmps17
      go_wp2
      go_ret
      exact ⟨rfl, rfl⟩
    · rw [show regB r = false by simp [regB, h1]]
      go_enter Try.func17, Try.ntmps17
      go_wp2
      go_ret
      exact ⟨rfl, rfl⟩
  · rw [show regB r = false by simp [regB, h0]]
    go_enter Try.func17, Try.ntmps17
    go_wp2
    go_ret
    exact ⟨rfl, rfl⟩

section
variable {w : World} {b : Nat} {N : List Nat} {f : Frm} {A : Option Addr} {cap : Nat}
set_option maxHeartbeats 1000000 in
set_option maxRecDepth 100000 in
theorem rvalue_any (h : FrameIn w b N f A cap) (op a' b' c v m wh : Int) :
    Calls Try.prog 9 #[.pointer (some ⟨b, 0, none⟩), .agg #[.int .i64 op, .int .i64 a', .int .i64 b', .int .i64 c, .int .u64 v, .int .i64 m, .int .i64 wh]] w (WordPost (valP f ⟨op, a', b', c, v, m, wh⟩) w) := by
  have FIN := Lib.hid (show Below w.heap.size w (w.alloc (.cells #[.int .i64 op, .int .i64 a', .int .i64 b', .int .i64 c, .int .u64 v, .int .i64 m, .int .i64 wh] 24)) from (Below.refl _ _).alloc (Nat.le_refl _) _)
  have RG := Lib.hid (fun W => rreg_any c W)
  have hlt := h.top.lt
  by_cases hc : c = -1
  · rw [show valP f ⟨op, a', b', c, v, m, wh⟩ = v from if_pos hc]
    subst hc
    clear h
    go_enter Try.func9, Try.ntmps9
    go_wp2_with fail
    go_ret
    exact ⟨rfl, FIN.out⟩
  · have hc' : (c == -1) = false := by simp [hc]
    rw [show valP f ⟨op, a', b', c, v, m, wh⟩ = regV f c from if_neg hc]
    cases hr : regB c with
    | false =>
      rw [show regV f c = 0 by unfold regV; rw [hr]; rfl]
      rw [hr] at RG
      clear h hc hr
      go_enter Try.func9, Try.ntmps9
      go_wp2_with (go_at_call 17; refine (RG.out _).mono ?_; rintro e w' ⟨rfl, rfl⟩)
      go_ret
      exact ⟨rfl, FIN.out⟩
    | true =>
      rw [show regV f c = f.r.getD c.toNat 0 by unfold regV; rw [hr]; rfl]
      rw [hr] at RG
      obtain ⟨k, rfl⟩ : ∃ k : Nat, c = k := ⟨c.toNat, by simp [regB] at hr; omega⟩
      have hk : k < 32 := by simp [regB] at hr; omega
      have hk' : (k : Int) < 32 := by omega
      have cr := h.reg k hk
      rw [show ((k : Int)).toNat = k by omega]
      generalize f.r.getD k 0 = y at cr ⊢
      clear h hc hr
      go_enter Try.func9, Try.ntmps9
      go_wp2_with (go_at_call 17; refine (RG.out _).mono ?_; rintro e w' ⟨rfl, rfl⟩)
      go_quiet (fail)
      go_wp2_with fail
      go_ret
      exact ⟨rfl, ⟨FIN.out.os, FIN.out.tape, FIN.out.output, FIN.out.size, FIN.out.block⟩⟩

set_option maxHeartbeats 1000000 in
set_option maxRecDepth 100000 in
theorem raddress_any (h : FrameIn w b N f A cap) (op a' b' c v m wh : Int) (v0 : 0 ≤ v) (v1 : v ≤ 18446744073709551615) :
    Calls Try.prog 11 #[.pointer (some ⟨b, 0, none⟩), .agg #[.int .i64 op, .int .i64 a', .int .i64 b', .int .i64 c, .int .u64 v, .int .i64 m, .int .i64 wh]] w (WordPost (addrP f ⟨op, a', b', c, v, m, wh⟩) w) := by
  have FIN := Lib.hid (show Below w.heap.size w (w.alloc (.cells #[.int .i64 op, .int .i64 a', .int .i64 b', .int .i64 c, .int .u64 v, .int .i64 m, .int .i64 wh] 24)) from (Below.refl _ _).alloc (Nat.le_refl _) _)
  have RG := Lib.hid (fun W => rreg_any b' W)
  have hlt := h.top.lt
  have e0 : regB b' = false → addrP f ⟨op, a', b', c, v, m, wh⟩ = v := fun hr => by unfold addrP regV; rw [hr]; show (0 + v) % _ = v; omega
  by_cases hc : b' = -1
  · rw [e0 (by subst hc; rfl)]
    subst hc
    clear h e0
    go_enter Try.func11, Try.ntmps11
    go_wp2_with fail
    go_ret
    exact ⟨rfl, FIN.out⟩
  · have hc' : (b' == -1) = false := by simp [hc]
    cases hr : regB b' with
    | false =>
      rw [e0 hr]
      rw [hr] at RG
      clear h hc hr e0
      go_enter Try.func11, Try.ntmps11
      go_wp2_with (go_at_call 17; refine (RG.out _).mono ?_; rintro e w' ⟨rfl, rfl⟩)
      go_ret
      exact ⟨rfl, FIN.out⟩
    | true =>
      rw [show addrP f ⟨op, a', b', c, v, m, wh⟩ = (f.r.getD b'.toNat 0 + v) % 18446744073709551616 by unfold addrP regV; rw [hr]; rfl]
      rw [hr] at RG
      obtain ⟨k, rfl⟩ : ∃ k : Nat, b' = k := ⟨b'.toNat, by simp [regB] at hr; omega⟩
      have hk : k < 32 := by simp [regB] at hr; omega
      have hk' : (k : Int) < 32 := by omega
      have cr := h.reg k hk
      rw [show ((k : Int)).toNat = k by omega]
      generalize f.r.getD k 0 = y at cr ⊢
      have hw : IntKind.u64.wrap (y + v) = (y + v) % 18446744073709551616 := IntKind.wrap_u64 _
      generalize (y + v) % 18446744073709551616 = z at hw ⊢
      clear h hc hr e0 v0 v1
      go_enter Try.func11, Try.ntmps11
      go_wp2_with (go_at_call 17; refine (RG.out _).mono ?_; rintro e w' ⟨rfl, rfl⟩)
      go_quiet (fail)
      go_wp2_with fail
      go_ret
      exact ⟨rfl, ⟨FIN.out.os, FIN.out.tape, FIN.out.output, FIN.out.size, FIN.out.block⟩⟩
end
end Go.Proofs.Ytlodkgbmojgmnaa
