/- Contract of package asm's Parse (layer 5): a text's instructions and labels in memory of their own, or an error. The condition: the program's table of names holds the names. -/
import Derived.Test.YtneajiglkiffjaaGreatDoorAsmLine
import Derived.Test.YtneajiglkiffjaaGreatDoorAsmFin
import Derived.Test.YtneajiglkiffjaaGreatDoorErrs
namespace Go.Proofs.YtneajiglkiffjaaGreatDoor
open Go.RowKit
set_option linter.unusedVariables false

theorem opds_uses : ∀ (os : List Nat) (ws : List (List UInt8)) (x y : Inst) (us : List (List UInt8)), opdsP os ws x = some (y, us) → us.length ≤ os.length ∧ ∀ u ∈ us, u ∈ ws
  | [], ws, x, y, us, h => by
    simp [opdsP] at h
    obtain ⟨_, rfl⟩ := h
    simp
  | o :: os, [], x, y, us, h => by simp [opdsP] at h
  | o :: os, w :: ws, x, y, us, h => by
    rw [opdsP] at h
    cases ho : opdP o w x with
    | none => rw [ho] at h; simp at h
    | some q =>
      obtain ⟨z, u⟩ := q
      rw [ho] at h
      simp only [Option.map_eq_some_iff] at h
      obtain ⟨r, hr, he⟩ := h
      obtain ⟨ih1, ih2⟩ := opds_uses os ws z r.1 r.2 hr
      simp only [Prod.mk.injEq] at he
      rw [← he.2]
      have hu : ∀ v ∈ u.toList, v = w := by
        intro v hv
        unfold opdP at ho
        repeat' split at ho
        all_goals (first | (simp at ho; obtain ⟨_, rfl⟩ := ho; simp at hv; exact hv) | (simp at ho; obtain ⟨_, _, rfl⟩ := ho; simp at hv; done) | (simp at ho; obtain ⟨_, _, _, rfl⟩ := ho; simp at hv; done) | (simp at ho; done))
      refine ⟨by rw [List.length_append, List.length_cons]; cases u <;> simp <;> omega, fun v hv => ?_⟩
      rcases List.mem_append.1 hv with g | g
      · rw [hu v g]; simp
      · exact List.mem_cons_of_mem _ (ih2 v g)
theorem ins_uses {ws : List (List UInt8)} {x : Inst} {us : List (List UInt8)} (h : insP ws = some (x, us)) : us.length ≤ 3 ∧ ∀ u ∈ us, u ∈ ws := by
  unfold insP at h
  cases hop : opP (ws.getD 0 []) with
  | none => rw [hop] at h; simp at h
  | some op =>
    rw [hop] at h
    simp only [] at h
    split at h
    · simp at h
    · cases ho : opdsP (formOf op) ws.tail { inst0 with op := op } with
      | none => rw [ho] at h; simp at h
      | some q =>
        obtain ⟨y, us'⟩ := q
        rw [ho] at h
        obtain ⟨h1, h2⟩ := opds_uses _ _ _ _ _ ho
        have e : us = us' := by
          simp only [] at h
          split at h
          · simp only [Option.map_eq_some_iff] at h
            obtain ⟨z, _, hz⟩ := h
            simp at hz; exact hz.2.symm
          · simp at h; exact h.2.symm
        rw [e]
        exact ⟨Nat.le_trans h1 (form_le op), fun u hu => List.mem_of_mem_tail (h2 u hu)⟩
/-- What the state keeps. -/
structure StOk (s : AsmS) (i : Nat) : Prop where
  c : s.code.length ≤ i
  l : s.labels.length ≤ i
  u : s.uses.length ≤ 3 * i
  ui : ∀ q ∈ s.uses, q.2.1 < s.code.length ∧ q.1.length ≤ 65536 ∧ q.2.2 < i
  li : ∀ q ∈ s.labels, q.1.length ≤ 65536 ∧ q.2.1 ≤ s.code.length ∧ q.2.2 < i
theorem StOk.start : StOk {} 0 := ⟨Nat.le_refl _, Nat.le_refl _, Nat.le_refl _, fun q hq => by simp at hq, fun q hq => by simp at hq⟩
theorem StOk.step {s s' : AsmS} {i : Nat} {t : List UInt8} (h : StOk s i) (ht : t.length ≤ 65536) (hs : lineP t i s = .ok s') : StOk s' (i + 1) := by
  obtain ⟨h1, h2, h3, h4, h5⟩ := h
  have wl : ∀ x ∈ fieldsB (cutAt 59 t).1, x.length ≤ 65536 := fun x hx => Nat.le_trans ((fieldsB_len _).1 x hx) (Nat.le_trans (cutAt_len 59 t) ht)
  unfold lineP at hs
  generalize fieldsB (cutAt 59 t).1 = ws at hs wl
  simp only [] at hs
  split at hs
  · cases hs
    exact ⟨by omega, by omega, by omega, fun q hq => ⟨(h4 q hq).1, (h4 q hq).2.1, by have := (h4 q hq).2.2; omega⟩, fun q hq => ⟨(h5 q hq).1, (h5 q hq).2.1, by have := (h5 q hq).2.2; omega⟩⟩
  · rename_i hne
    split at hs
    · split at hs
      · cases hs
      · cases hs
        refine ⟨by simp; omega, by simp; omega, by simp; omega, fun q hq => ⟨(h4 q hq).1, (h4 q hq).2.1, by have := (h4 q hq).2.2; omega⟩, fun q hq => ?_⟩
        rcases List.mem_append.1 hq with g | g
        · exact ⟨(h5 q g).1, (h5 q g).2.1, by have := (h5 q g).2.2; omega⟩
        · simp at g
          rw [g]
          refine ⟨Nat.le_trans (dropLast_len _) ?_, Nat.le_refl _, by simp⟩
          cases ws with
          | nil => simp at hne
          | cons a b => exact wl a (by simp)
    · cases hi : insP ws with
      | none => rw [hi] at hs; cases hs
      | some q =>
        obtain ⟨x, us⟩ := q
        rw [hi] at hs
        cases hs
        obtain ⟨u1, u2⟩ := ins_uses hi
        refine ⟨by simp; omega, by simp; omega, by simp; omega, fun q hq => ?_, fun q hq => ?_⟩
        · rcases List.mem_append.1 hq with g | g
          · have := (h4 q g).1
            exact ⟨by simp; omega, (h4 q g).2.1, by have := (h4 q g).2.2; omega⟩
          · simp only [List.mem_map] at g
            obtain ⟨u, hu, rfl⟩ := g
            exact ⟨by simp, wl u (u2 u hu), by simp⟩
        · have := (h5 q hq).2.1
          exact ⟨(h5 q hq).1, by simp; omega, by have := (h5 q hq).2.2; omega⟩
theorem linesB_len : ∀ l : List UInt8, (∀ x ∈ linesB l, x.length ≤ l.length) ∧ (linesB l).length ≤ l.length + 1
  | [] => by simp [linesB]
  | c :: t => by
    obtain ⟨h1, h2⟩ := linesB_len t
    rw [linesB]
    by_cases hc : c = 10
    · rw [if_pos hc]
      exact ⟨fun x hx => by
        rcases List.mem_cons.1 hx with e | g
        · rw [e]; simp
        · have := h1 x g; simp; omega, by simp; omega⟩
    · rw [if_neg hc]
      cases hl : linesB t with
      | nil => simp
      | cons a b =>
        rw [hl] at h1 h2
        refine ⟨fun x hx => ?_, by simp at h2 ⊢; omega⟩
        rcases List.mem_cons.1 hx with e | g
        · rw [e]; have := h1 a (by simp); simp; omega
        · have := h1 x (by simp [g]); simp; omega
theorem ownsRow_rebase {W : World} {b b' : Nat} {e : TypeId} {size : Nat} {v : Value} {n : Nat} {xs : List Value} (h : W.ownsRow b e size v n xs) (hb : ∀ k, v.ownBlock = some k → b' ≤ k) : W.ownsRow b' e size v n xs := by
  obtain ⟨h1, h2⟩ := h
  refine ⟨h1, ?_⟩
  rcases h2 with h2 | ⟨g, cap, cur, hv, hg, r⟩
  · exact .inl h2
  · exact .inr ⟨g, cap, cur, hv, hb g (by rw [hv]; rfl), r⟩
/-- What Parse leaves. -/
def ParOut (r : PRes) (w : World) (e : Ending) (w' : World) : Prop := Below w.heap.size w w' ∧ match r with
  | .ok c ls => ∃ vc vl, e = .returned (.tuple #[vc, vl, .nilIface]) ∧ w'.ownsRow w.heap.size 44 7 vc c.length (flatCs c) ∧ w'.ownsRow w.heap.size 41 2 vl ls.length (flatLab ls)
  | .text n => ∃ x, e = .returned (.tuple #[.slice none 0 0, .slice none 0 0, .iface 69 (.pointer (some ⟨x, 0, none⟩))]) ∧ w'.heap[x]? = some (.cells #[.string asmS, .int .i64 (n : Int), .iface 49 (.int .i64 6)] 73)
  | .err => ∃ t v, e = .returned (.tuple #[.slice none 0 0, .slice none 0 0, .iface t v])
/-- Under way. -/
structure PSt (w wr : World) (rb mb lb : Nat) (ls : List (List UInt8)) (i : Nat) (s : AsmS) (vc vl vu : Value) : Prop where
  e : linesP ls 0 {} = linesP (ls.drop i) i s
  R : Rd wr rb mb (i - 1) s vc vl vu
  f : ∀ k ∈ foot rb mb vc vl vu, w.heap.size ≤ k ∧ k ≠ lb
  b : Below w.heap.size w wr
  L : StrsIn wr lb ls
  ok : StOk s i
theorem Rd.setLine {W : World} {rb mb n : Nat} {s : AsmS} {vc vl vu : Value} (h : Rd W rb mb n s vc vl vu) (m : Nat) : Rd (W.setCell ⟨rb, 0, none⟩ (.int .i64 (m : Int))) rb mb m s vc vl vu := by
  have kp : ∀ k, k ≠ rb → (W.setCell ⟨rb, 0, none⟩ (.int .i64 (m : Int))).heap[k]? = W.heap[k]? := fun k hk => Below.heap_setCell _ _ _ _ hk
  exact ⟨by rw [heap_setA _ h.r]; rfl, ownsRow_block h.c fun k hk => kp k (h.cApart k hk).1, ownsRow_block h.l fun k hk => kp k (h.lApart k hk).1, ownsRow_block h.u fun k hk => kp k (h.uApart k hk).1, h.m.block (kp mb h.rm.symm)⟩
theorem below_of_only {w w1 w2 : World} {F : List Nat} (hb : Below w.heap.size w w1) (ho : Only F w1 w2) (hF : ∀ k ∈ F, w.heap.size ≤ k) : Below w.heap.size w w2 := hb.trans (ho.below hF hb.size)
theorem PSt.next {w wr W2 : World} {rb mb lb : Nat} {ls : List (List UInt8)} {i : Nat} {s s' : AsmS} {vc vl vu vc' vl' vu' : Value} (h : PSt w wr rb mb lb ls i s vc vl vu) (hi : i < ls.length) (ht : (ls.getD i []).length ≤ 65536) (hs : lineP (ls.getD i []) i s = .ok s')
    (hR : Rd W2 rb mb i s' vc' vl' vu') (ho : Only (foot rb mb vc vl vu) (wr.setCell ⟨rb, 0, none⟩ (.int .i64 (i : Int))) W2) (hf : FootOk (wr.setCell ⟨rb, 0, none⟩ (.int .i64 (i : Int))) (foot rb mb vc vl vu) (foot rb mb vc' vl' vu')) : PSt w W2 rb mb lb ls (i + 1) s' vc' vl' vu' := by
  have hsz : (wr.setCell ⟨rb, 0, none⟩ (.int .i64 (i : Int))).heap.size = wr.heap.size := by simp [World.setCell]
  have hrb : w.heap.size ≤ rb := (h.f rb (by simp [foot])).1
  have b1 : Below w.heap.size w (wr.setCell ⟨rb, 0, none⟩ (.int .i64 (i : Int))) := h.b.setCell hrb _
  refine ⟨?_, by simpa using hR, fun k hk => ?_, below_of_only b1 ho fun k hk => (h.f k hk).1, ?_, h.ok.step ht hs⟩
  · rw [h.e, List.drop_eq_getElem_cons hi, linesP]
    rw [List.getD_eq_getElem?_getD, List.getElem?_eq_getElem hi] at hs
    simp only [Option.getD_some] at hs
    rw [hs]
  · rcases hf k hk with g | g
    · exact h.f k g
    · rw [hsz] at g
      have h1 := h.b.size
      have h2 := h.L.lt
      exact ⟨by omega, by omega⟩
  · refine (h.L.block (Below.heap_setCell _ _ _ _ (fun e => (h.f rb (by simp [foot])).2 e.symm))).block (ho.block lb (by rw [hsz]; exact h.L.lt) fun hm => (h.f lb hm).2 rfl)
set_option maxHeartbeats 4000000 in
set_option maxRecDepth 100000 in
theorem asmParse_any (s : ByteArray) (hs : s.size ≤ 9223372036854775807) (w : World) (N : NamesAt w) (hg : 0 < w.heap.size) : Calls Tryz.prog 12 #[.string s] w (ParOut (parseP s.data.toList) w) := by
  obtain ⟨R, hR⟩ : ∃ R, R = parseP s.data.toList := ⟨_, rfl⟩
  rw [← hR]
  have hsz : s.data.toList.length = s.size := by simp
  have FA := Lib.hid (fun k t x W => afault_any k t x W)
  by_cases hbig : 65536 < s.size
  · have hb2 : (65536 : Int) < (s.size : Int) := by omega
    have FIN := Lib.hid (fun t v w' (hb : Below w.heap.size w w') => show ParOut R w (.returned (.tuple #[.slice none 0 0, .slice none 0 0, .iface t v])) w' from by
      rw [hR, parseP, if_pos (by rw [hsz]; exact hbig)]; exact ⟨hb, _, _, rfl⟩)
    clear hbig hR hsz
    go_enter Tryz.func12, Tryz.ntmps12
    go_wp2_with (go_at_call 15; refine (FA.out _ _ _ _).mono ?_; rintro e w9 ⟨rfl, rfl⟩)
    go_ret3
    exact FIN.out _ _ _ ((Below.refl _ _).alloc (Nat.le_refl _) _)
  · have hb2 : ¬ (65536 : Int) < (s.size : Int) := by omega
    obtain ⟨ls, hls⟩ : ∃ ls, ls = linesB s.data.toList := ⟨_, rfl⟩
    have E := Lib.hid (show R = match linesP ls 0 {} with | .inl s => finishP s | .inr (some n) => .text n | .inr none => .err from by
      rw [hR, parseP, if_neg (by rw [hsz]; exact hbig), ← hls]
      rcases linesP ls 0 {} with s | _ | n <;> rfl)
    have hl1 := (linesB_len s.data.toList).2
    have HL := Lib.hid (show ∀ x ∈ ls, x.length ≤ 65536 from fun x hx => by have := (linesB_len s.data.toList).1 x (by rw [← hls]; exact hx); omega)
    rw [← hls] at hl1
    have SP := Lib.hid (fun W => split_any s W (by omega))
    rw [← hls] at SP
    obtain ⟨nL, hnL⟩ : ∃ k, k = ls.length := ⟨_, rfl⟩
    rw [← hnL] at hl1 SP
    have HNL := Lib.hid hnL
    have HNM := Lib.hid N
    have hnl2 : nL ≤ 65537 := by omega
    have hmm := @run_makeMap Tryz.prog
    clear hbig hR hsz hls hnL N
    go_enter Tryz.func12, Tryz.ntmps12
    go_wp2_with fail
    go_at_call 28
    refine (SP.out _).mono ?_
    rintro e w9 ⟨rfl, rfl⟩
    obtain ⟨W1, hW1⟩ : ∃ W1, W1 = (w.alloc (.map #[] 0)).alloc (.cells #[.int .i64 0, .slice none 0 0, .slice none 0 0, .map (some w.heap.size), .slice none 0 0] 77) := ⟨_, rfl⟩
    obtain ⟨rb, hrb⟩ : ∃ rb, rb = w.heap.size + 1 := ⟨_, rfl⟩
    have hs1 : W1.heap.size = w.heap.size + 2 := by rw [hW1]; simp
    have S0 := Lib.hid (show PSt w (W1.alloc (.cells ((ls.map fun l => Value.string (bytesA l)).toArray) 9)) rb w.heap.size W1.heap.size ls 0 {} (.slice none 0 0) (.slice none 0 0) (.slice none 0 0) from by
      have r1 : Rd W1 rb w.heap.size 0 {} (.slice none 0 0) (.slice none 0 0) (.slice none 0 0) := by
        subst hW1 hrb
        refine ⟨?_, World.ownsRow_nil _ _ _ _, World.ownsRow_nil _ _ _ _, World.ownsRow_nil _ _ _ _, ?_⟩
        · have := heap_alloc_new (w.alloc (.map #[] 0)) (.cells #[.int .i64 0, .slice none 0 0, .slice none 0 0, .map (some w.heap.size), .slice none 0 0] 77)
          simpa using this
        · exact (MapIs.made w).block (Below.heap_alloc _ _ _ (by simp))
      have b1 : Below w.heap.size w W1 := by subst hW1; exact ((Below.refl _ _).alloc (Nat.le_refl _) _).alloc (by simp) _
      refine ⟨rfl, r1.alloc _, fun k hk => ?_, b1.alloc b1.size _, ⟨by simp, fun i hi => ?_⟩, StOk.start⟩
      · simp [foot, Value.ownBlock] at hk
        rcases hk with rfl | rfl
        · exact ⟨by omega, by omega⟩
        · exact ⟨Nat.le_refl _, by omega⟩
      · rw [World.cell?_alloc_at _ _ _ _ rfl]
        simp [List.getElem?_eq_getElem hi, List.getD_eq_getElem?_getD])
    go_wp2_with fail
    simp only [← hW1, ← hrb]
    obtain ⟨W2, hW2⟩ : ∃ W2, W2 = W1.alloc (.cells ((ls.map fun l => Value.string (bytesA l)).toArray) 9) := ⟨_, rfl⟩
    obtain ⟨lb, hlb⟩ : ∃ lb, lb = rb + 1 := ⟨_, rfl⟩
    rw [← hW2, show W1.heap.size = lb by omega] at S0
    simp only [← hW2, ← hlb]
    obtain ⟨mb, hmb⟩ : ∃ mb, mb = w.heap.size := ⟨_, rfl⟩
    rw [← hmb] at S0
    clear hW1 hW2 hrb hlb hs1 hmm hmb
    have hNB := hg
    go_loopw [20] (fun vi wr => ∃ i st vc vl vu, i ≤ nL ∧ vi = .int .i64 i ∧ Hid (PSt w wr rb mb lb ls i st vc vl vu)) (fun vi _ => nL - (intOf vi).toNat)
    case atStart => exact ⟨0, {}, _, _, _, by omega, rfl, S0⟩
    case round =>
      obtain ⟨i, st, vc, vl, vu, hi, rfl, PS⟩ := hrel
      have HOK := PS.out.ok
      by_cases hlt : i < nL
      · have hil : i < ls.length := by rw [← HNL.out]; exact hlt
        have htl : (ls.getD i []).length ≤ 65536 := by
          rw [List.getD_eq_getElem?_getD, List.getElem?_eq_getElem hil]
          exact HL.out _ (List.getElem_mem _)
        have lc := PS.out.L.cell i hil
        obtain ⟨c0, _, _, _, _⟩ := PS.out.R.cells
        have g0 := PS.out.R.free 0
        have RA := Lib.hid (read_any (ls.getD i []) rb mb i st vc vl vu (wr.setCell ⟨rb, 0, none⟩ (.int .i64 (i : Int))) ⟨htl, PS.out.R.setLine i, by have := HOK.c; omega, by have := HOK.l; omega, by have := HOK.u; omega, HNM.out.below (PS.out.b.setCell (PS.out.f rb (by simp [foot])).1 _) hNB, by
          have := PS.out.b.size
          simp only [World.setCell, Array.size_modify]
          omega⟩)
        obtain ⟨tl, htl2⟩ : ∃ tl, tl = bytesA (ls.getD i []) := ⟨_, rfl⟩
        rw [← htl2] at lc RA
        clear htl2
        have hrb : w.heap.size ≤ rb := (PS.out.f rb (by simp [foot])).1
        have b1 := Lib.hid (show Below w.heap.size w (wr.setCell ⟨rb, 0, none⟩ (.int .i64 (i : Int))) from PS.out.b.setCell hrb _)
        have e1 : linesP ls 0 {} = match lineP (ls.getD i []) i st with | .ok s' => linesP (ls.drop (i + 1)) (i + 1) s' | .text => .inr (some i) | .err => .inr none := by
          rw [PS.out.e, List.drop_eq_getElem_cons hil, linesP, List.getD_eq_getElem?_getD, List.getElem?_eq_getElem hil]
          rfl
        have E1 := Lib.hid e1
        clear e1
        cases hlp : lineP (ls.getD i []) i st with
        | ok s' =>
          rw [hlp] at RA
          have NX := Lib.hid (fun W2 vc' vl' vu' hR ho hf => PS.out.next hil htl hlp (W2 := W2) (vc' := vc') (vl' := vl') (vu' := vu') hR ho hf)
          clear hlp htl hil HOK
          go_wp2_with fail
          go_at_call 29
          refine RA.out.mono ?_
          rintro e w9 ⟨rfl, vc', vl', vu', q1, q2, q3⟩
          have NL := Lib.hid (NX.out w9 vc' vl' vu' q1 q2 q3)
          clear q1 q2 q3
          go_wp2_with fail
          go_roundw
          case rel => exact ⟨i + 1, s', vc', vl', vu', by omega, by go_num, NL⟩
          case measure => simp [intOf]; omega
        | text =>
          rw [hlp] at RA
          have FIN := Lib.hid (fun w9 (hb : Below w.heap.size w w9) => show ParOut R w (.returned (.tuple #[.slice none 0 0, .slice none 0 0, .iface 69 (.pointer (some ⟨w9.heap.size, 0, none⟩))])) (w9.alloc (.cells #[.string asmS, .int .i64 (i : Int), .iface 49 (.int .i64 6)] 73)) from by
            rw [E.out, E1.out, hlp]
            exact ⟨hb.alloc hb.size _, _, rfl, heap_alloc_new _ _⟩)
          have FF := Lib.hid (fun k hk => (PS.out.f k hk).1)
          clear hlp htl hil HOK
          go_wp2_with fail
          go_at_call 29
          refine RA.out.mono ?_
          rintro e w9 ⟨rfl, ho⟩
          have B9 := Lib.hid (below_of_only b1.out ho FF.out)
          clear ho
          go_wp2_with fail
          go_at_call 15
          refine (FA.out _ _ _ _).mono ?_
          rintro e w8 ⟨rfl, rfl⟩
          go_wp2_with fail
          go_ret3
          exact FIN.out _ B9.out
        | err =>
          rw [hlp] at RA
          have FIN := Lib.hid (fun t v w9 (hb : Below w.heap.size w w9) => show ParOut R w (.returned (.tuple #[.slice none 0 0, .slice none 0 0, .iface t v])) w9 from by
            rw [E.out, E1.out, hlp]
            exact ⟨hb, _, _, rfl⟩)
          have FF := Lib.hid (fun k hk => (PS.out.f k hk).1)
          clear hlp htl hil HOK
          go_wp2_with fail
          go_at_call 29
          refine RA.out.mono ?_
          rintro e w9 ⟨⟨t, v, rfl⟩, ho⟩
          have B9 := Lib.hid (below_of_only b1.out ho FF.out)
          clear ho
          go_wp2_with fail
          go_at_call 15
          refine (FA.out _ _ _ _).mono ?_
          rintro e w8 ⟨rfl, rfl⟩
          go_wp2_with fail
          go_ret3
          exact FIN.out _ _ _ (B9.out.alloc B9.out.size _)
      · have e1 : linesP ls 0 {} = .inl st := by
          rw [PS.out.e, show i = ls.length by rw [← HNL.out]; omega, List.drop_length]; rfl
        have E1 := Lib.hid (show R = finishP st from by rw [E.out, e1])
        have FI := Lib.hid (finish_any rb mb (i - 1) st vc vl vu wr ⟨PS.out.R, by have := HOK.c; omega, by have := HOK.l; omega, by have := HOK.u; omega, fun q hq => by have := HOK.ui q hq; exact ⟨this.1, this.2.1, by omega⟩, fun q hq => by have := HOK.li q hq; exact ⟨this.1, this.2.1, by omega⟩⟩)
        clear e1 HOK
        have FF := Lib.hid (fun k hk => (PS.out.f k hk).1)
        cases hfp : finishP st with
        | ok c ls2 =>
          rw [hfp] at FI
          have FIN := Lib.hid (fun w9 (hls : ls2 = st.labels) (hR : Rd w9 rb mb (i - 1) { st with code := c } vc vl vu) (ho : Only (foot rb mb vc vl vu) wr w9) => show ParOut R w (.returned (.tuple #[vc, vl, .nilIface])) w9.drew from by
            rw [E1.out, hfp, hls]
            exact ⟨(below_of_only PS.out.b ho FF.out).drew, vc, vl, rfl, ownsRow_rebase hR.c fun k hk => FF.out k (by simp [foot, hk]), ownsRow_rebase hR.l fun k hk => FF.out k (by simp [foot, hk])⟩)
          clear hfp
          go_wp2_with fail
          go_at_call 30
          refine FI.out.mono ?_
          rintro e w9 ⟨rfl, hls, hR, ho⟩
          have FINW := Lib.hid (FIN.out w9 hls hR ho)
          obtain ⟨_, c1, c2, _, _⟩ := hR.cells
          clear hls hR ho
          go_wp2_with fail
          go_region
          all_goals
            go_wp2_with fail
            go_ret3
            exact FINW.out
        | text k =>
          rw [hfp] at FI
          have FIN := Lib.hid (show False from by
            have h9 := hfp
            unfold finishP at h9
            split at h9
            · cases h9
            · split at h9 <;> cases h9)
          exact FIN.out.elim
        | err =>
          rw [hfp] at FI
          have FIN := Lib.hid (fun t v w9 (ho : Only (foot rb mb vc vl vu) wr w9) => show ParOut R w (.returned (.tuple #[.slice none 0 0, .slice none 0 0, .iface t v])) w9 from by
            rw [E1.out, hfp]
            exact ⟨below_of_only PS.out.b ho FF.out, _, _, rfl⟩)
          clear hfp
          go_wp2_with fail
          go_at_call 30
          refine FI.out.mono ?_
          rintro e w9 ⟨⟨t, v, rfl⟩, ho⟩
          have HO := Lib.hid ho
          clear ho
          go_wp2_with fail
          go_ret3
          exact FIN.out _ _ _ HO.out
end Go.Proofs.YtneajiglkiffjaaGreatDoor
