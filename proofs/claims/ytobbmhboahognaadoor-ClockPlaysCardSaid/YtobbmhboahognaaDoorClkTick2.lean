/- The walk of the clock's Tick (layer 8). The conditions: the clock was not used too often; the time is not the last one. -/
import Derived.Test.YtobbmhboahognaaDoorClkTick
import Derived.Lib.AppendZeros
namespace Go.Proofs.YtobbmhboahognaaDoor
open Go.RowKit
set_option linter.unusedVariables false

theorem owns_len {W : World} {B : Nat} {t : TypeId} {s : Nat} {v : Value} {n : Nat} {xs : List Value} (h : W.ownsRow B t s v n xs) : lenV v = n := by
  rcases h.2 with ⟨rfl, e⟩ | ⟨g, cap, cur, rfl, _⟩
  · exact e.symm
  · rfl
set_option maxHeartbeats 4000000 in
set_option maxRecDepth 100000 in
theorem clkTick {W : World} {F : List Nat} {b : Nat} {now : Int} {S : List Itm} {last m : Nat} (h : ClockAt W F b now S last m) (h0 : 0 ≤ now) (h1 : now < 18446744073709551615) (hm : m ≤ 4000) :
    Calls Tryd.prog 27 #[.pointer (some ⟨b, 0, none⟩)] W (TickPost W F b now S last m) := by
  obtain ⟨qb, mb, N, mc, v, c, cc, k, rfl, hP, hwd, hwf, hk, hlast, hcc, hc⟩ := h
  have c0 := hP.c0
  have f0 := hP.f0
  have hw : IntKind.u64.wrap (now + 1) = now + 1 := by rw [IntKind.wrap_u64]; omega
  have hlt := hP.lt
  have o1 : Only (clkF b qb mb mc v) W (W.setCell ⟨b, 0, none⟩ (.int .u64 (now + 1))) := (Only.refl _ W).setCell (p := ⟨b, 0, none⟩) (Or.inl (by simp)) _
  have P1 := hP.set (now + 1)
  have BND := Lib.hid (show ∀ i, i ≤ S.length → c + i * 10000 + 10000 < maxLen by intro i hi; unfold maxLen; omega)
  have NXT := Lib.hid (fun wr i v' vc hP' ho hF hO hv hi hj => tickPop (W := W) (F := clkF b qb mb mc v) (c := c) (cc := cc) (t := now + 1) (wr := wr) (i := i) (v := v') (vc := vc) (b := b) (qb := qb) (mb := mb) (N := N) (mc := mc) (S := S) (last := last) hP' ho hF hO hv hi hj (by omega) (by omega) (BND.out i hi))
  have ST := Lib.hid (NXT.out (W.setCell ⟨b, 0, none⟩ (.int .u64 (now + 1))).drew 0 v (.slice none 0 0) (by simpa using P1.only (Only.refl [] _).drew (by simp)) (by simpa [idsV] using World.ownsRow_nil _ _ _ _) (fun k hk => .inl hk) (o1.drew) (fun k hk => by cases hk) (Nat.zero_le _) (fun j hj => by omega))
  have TELL := Lib.hid (fun wr i u vc (h : TickI W (clkF b qb mb mc v) b qb mb N mc (now + 1) S last c cc wr i true u vc) => tickTell h hwd hwf (by omega))
  have FIN := Lib.hid (fun wr i u vc (h : TickI W (clkF b qb mb mc v) b qb mb N mc (now + 1) S last c cc wr i false u vc) => (show TickPost W (clkF b qb mb mc v) b now S last m (.returned vc) wr by
    obtain ⟨v', hP', ho, hF, hO, hv, hi, _, hn, hj⟩ := h
    refine ⟨i, vc, clkF b qb mb mc v', hi, rfl, ho, ⟨⟨qb, mb, N, mc, v', c + i * 10000, cc, k + i, rfl, by simpa using hP', List.Pairwise.sublist (List.drop_sublist i S) hwd, fun x hx => hwf x (List.mem_of_mem_drop hx), by simp; omega, by omega, by omega, by omega⟩, hF, hO⟩, hv, hj, hn rfl⟩))
  have q0 := P1.c0
  have q1 := P1.c1
  have HC := Lib.hid (fun wr i is u vc (h : TickI W (clkF b qb mb mc v) b qb mb N mc (now + 1) S last c cc wr i is u vc) => (show wr.cell? ⟨b, 0, none⟩ = some (.int .u64 (now + 1)) ∧ wr.cell? ⟨b, 1, none⟩ = some (.pointer (some ⟨qb, 0, none⟩)) by
    obtain ⟨v', hP', _⟩ := h
    exact ⟨hP'.c0, hP'.c1⟩))
  obtain ⟨n, hn⟩ : ∃ n, n = S.length := ⟨_, rfl⟩
  clear hP hwd hwf hk hlast hcc hc P1 o1 hlt BND
  go_enter Tryd.func27, Tryd.ntmps27
  go_upto_region 3 with fail
  go_region_held3 (fun w' => w'.cell? ⟨b, 0, none⟩ = some (.int .u64 (now + 1)) ∧ w'.cell? ⟨b, 1, none⟩ = some (.pointer (some ⟨qb, 0, none⟩))) (go_keep)
    (first
      | (go_at_call 58; ((with_reducible refine ST.out.mono ?_); rintro e w2 ⟨is, u, rfl, ht⟩; have T2 := Lib.hid ht; have d0 := (HC.out _ _ _ _ _ ht).1; have d1 := (HC.out _ _ _ _ _ ht).2; clear ht)))
  go_wp2_with fail
  go_loopw [3, 4, 5] (fun v3 v4 v5 wr => ∃ (i : Nat) (is : Bool) (u : Int), v4 = .int .u64 u ∧ v5 = .bool is ∧ lenV v3 = i ∧ Hid (TickI W (clkF b qb mb mc v) b qb mb N mc (now + 1) S last c cc wr i is u v3)) (fun v3 _ _ _ => n - lenV v3)
  case atStart => exact ⟨0, is, u, rfl, rfl, rfl, T2⟩
  case round =>
    obtain ⟨i, is, u, rfl, rfl, hi, ht⟩ := hrel
    cases is
    · have HFI := Lib.hid (FIN.out _ _ _ _ ht.out)
      clear ht
      go_wp2_with fail
      go_ret
      exact HFI.out
    · obtain ⟨hin, huw, hsome, hc2, hal, hnx⟩ := TELL.out _ _ _ _ ht.out
      have AL := Lib.hid hal
      have HU := Lib.hid huw
      have HS := Lib.hid hsome
      have NX := Lib.hid hnx
      clear ht hal huw hsome hnx
      go_upto_region 5 with (first
        | (at_delete; refine wpList_delete_al rfl _ _ rfl rfl AL.out _ HU.out HS.out rfl ?_; intro w3 ha hg hs; obtain ⟨vc', w4, v', hr, hP4, ho4, hF4, hO4, hv4, hj4⟩ := NX.out w3 ha hg hs; have HR := Lib.hid hr; have HO := Lib.hid ho4; have e0 := hP4.c0; have e1 := hP4.c1; have N4 := Lib.hid (NXT.out w4.drew (i + 1) v' vc' (hP4.only (Only.refl [] _).drew (by simp)) ho4.drew hF4 hO4.drew hv4 (by omega) hj4); clear hr ha hg hs hP4 ho4 hF4 hO4 hv4 hj4)
        | (at_builtin; refine Lib.wpList_append_run _ rfl _ _ 23 23 rfl _ _ rfl rfl _ _ (HR.out _) ?_))
      go_region_held3 (fun w' => w'.cell? ⟨b, 0, none⟩ = some (.int .u64 (now + 1)) ∧ w'.cell? ⟨b, 1, none⟩ = some (.pointer (some ⟨qb, 0, none⟩))) (go_keep)
        (first
          | (go_at_call 58; ((with_reducible refine N4.out.mono ?_); rintro e w5 ⟨is5, u5, rfl, ht⟩; have T5 := Lib.hid ht; have d50 := (HC.out _ _ _ _ _ ht).1; have d51 := (HC.out _ _ _ _ _ ht).2; clear ht)))
      go_wp2_with fail
      go_roundw
      case rel => exact ⟨i + 1, is5, u5, rfl, rfl, (by rw [owns_len HO.out, List.length_take]; omega), T5⟩
      case measure =>
        have e := owns_len HO.out
        rw [List.length_take] at e
        show n - lenV vc' < n - lenV u3
        omega
end Go.Proofs.YtobbmhboahognaaDoor
