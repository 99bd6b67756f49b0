/- What lies in memory while a text is read (layer 5): the reader's fields, the rows of instructions, labels and names that it owns, the map. -/
import Derived.Test.YtneajiglkiffjaaGreatDoorAsmMap
import Derived.Maps.AppendAt
namespace Go.Proofs.YtneajiglkiffjaaGreatDoor
open Go.RowKit
set_option linter.unusedVariables false

def flatCs (l : List Inst) : List Value := l.flatMap Inst.cs
def flatLab (l : Labs) : List Value := l.flatMap fun p => [.string (bytesA p.1), .int .i64 (p.2.1 : Int)]
def flatUse (l : Labs) : List Value := l.flatMap fun p => [.string (bytesA p.1), .int .i64 (p.2.1 : Int), .int .i64 (p.2.2 : Int)]
theorem flatCs_snoc (l : List Inst) (x : Inst) : flatCs (l ++ [x]) = flatCs l ++ x.cs := by simp [flatCs]
theorem flatLab_snoc (l : Labs) (p : List UInt8 × Nat × Nat) : flatLab (l ++ [p]) = flatLab l ++ [.string (bytesA p.1), .int .i64 (p.2.1 : Int)] := by simp [flatLab]
theorem flatUse_snoc (l : Labs) (p : List UInt8 × Nat × Nat) : flatUse (l ++ [p]) = flatUse l ++ [.string (bytesA p.1), .int .i64 (p.2.1 : Int), .int .i64 (p.2.2 : Int)] := by simp [flatUse]
theorem ownsRow_block {W W' : World} {base : Nat} {e : TypeId} {size : Nat} {v : Value} {n : Nat} {xs : List Value} (h : W.ownsRow base e size v n xs) (hb : ∀ k, v.ownBlock = some k → W'.heap[k]? = W.heap[k]?) : W'.ownsRow base e size v n xs := by
  obtain ⟨hl, h⟩ := h
  refine ⟨hl, ?_⟩
  rcases h with h | ⟨g, cap, cur, hv, hg, hh, h1, h2, h3, h4⟩
  · exact .inl h
  · exact .inr ⟨g, cap, cur, hv, hg, by rw [hb g (by rw [hv]; rfl)]; exact hh, h1, h2, h3, h4⟩
theorem ownsRow_tag {W : World} {base : Nat} {e : TypeId} {size : Nat} {v : Value} {n : Nat} {xs : List Value} (h : W.ownsRow base e size v n xs) {k : Nat} (hk : v.ownBlock = some k) : ∃ cur, W.heap[k]? = some (.cells cur e (0, 0)) := by
  rcases h.2 with ⟨hv, _⟩ | ⟨g, cap, cur, hv, hg, hh, _⟩
  · rw [hv] at hk; cases hk
  · rw [hv] at hk
    have : g = k := by simpa [Value.ownBlock] using hk
    subst this
    exact ⟨_, hh⟩
theorem heap_ltA {W : World} {x : Nat} {o : Obj} (h : W.heap[x]? = some o) : x < W.heap.size := by
  rcases Nat.lt_or_ge x W.heap.size with g | g
  · exact g
  · rw [Array.getElem?_eq_none g] at h; cases h
theorem heap_setA {w : World} {g i : Nat} {cs : Array Value} {t : TypeId} (u : Value) (h : w.heap[g]? = some (.cells cs t)) : (w.setCell ⟨g, i, none⟩ u).heap[g]? = some (.cells (cs.set! i u) t) := by
  have hl : g < w.heap.size := (Array.getElem?_eq_some_iff.1 h).1
  have hg : w.heap[g] = .cells cs t := (Array.getElem?_eq_some_iff.1 h).2
  simp [World.setCell, Array.getElem?_modify, h]
theorem own_form {W : World} {base : Nat} {e : TypeId} {size : Nat} {v : Value} {n : Nat} {xs : List Value} (h : W.ownsRow base e size v n xs) : ∃ A cap, v = .slice A n cap := by
  rcases h.2 with ⟨hv, h0⟩ | ⟨g, cap, cur, hv, _⟩
  · exact ⟨none, 0, by rw [hv, h0]⟩
  · exact ⟨_, _, hv⟩
/-- Where the reader's own things lie. -/
def foot (rb mb : Nat) (vc vl vu : Value) : List Nat := rb :: mb :: (vc.ownBlock.toList ++ vl.ownBlock.toList ++ vu.ownBlock.toList)
/-- The reader at a line, with what it has read. -/
structure Rd (W : World) (rb mb n : Nat) (s : AsmS) (vc vl vu : Value) : Prop where
  r : W.heap[rb]? = some (.cells #[.int .i64 (n : Int), vc, vl, .map (some mb), vu] 77 (0, 0))
  c : W.ownsRow 0 44 7 vc s.code.length (flatCs s.code)
  l : W.ownsRow 0 41 2 vl s.labels.length (flatLab s.labels)
  u : W.ownsRow 0 119 3 vu s.uses.length (flatUse s.uses)
  m : MapIs W mb s.labels
theorem Rd.mapTag {W : World} {mb : Nat} {ls : Labs} (h : MapIs W mb ls) : ∃ es clock, W.heap[mb]? = some (.map es clock) := by
  obtain ⟨es, clock, h1, _⟩ := h
  exact ⟨es, clock, h1⟩
section
variable {W W' : World} {rb mb n : Nat} {s : AsmS} {vc vl vu : Value}
theorem Rd.block (h : Rd W rb mb n s vc vl vu) (hb : ∀ k, k ∈ foot rb mb vc vl vu → W'.heap[k]? = W.heap[k]?) : Rd W' rb mb n s vc vl vu :=
  ⟨by rw [hb rb (by simp [foot])]; exact h.r, ownsRow_block h.c fun k hk => hb k (by simp [foot, hk]), ownsRow_block h.l fun k hk => hb k (by simp [foot, hk]), ownsRow_block h.u fun k hk => hb k (by simp [foot, hk]), h.m.block (hb mb (by simp [foot]))⟩
theorem Rd.lt (h : Rd W rb mb n s vc vl vu) : ∀ k, k ∈ foot rb mb vc vl vu → k < W.heap.size := fun k hk => by
  simp only [foot, List.mem_cons, List.mem_append, Option.mem_toList] at hk
  rcases hk with rfl | rfl | (hk | hk) | hk
  · exact heap_ltA h.r
  · exact h.m.lt
  · obtain ⟨c, e⟩ := ownsRow_tag h.c hk; exact heap_ltA e
  · obtain ⟨c, e⟩ := ownsRow_tag h.l hk; exact heap_ltA e
  · obtain ⟨c, e⟩ := ownsRow_tag h.u hk; exact heap_ltA e
theorem Rd.only {F : List Nat} (h : Rd W rb mb n s vc vl vu) (ho : Only F W W') (hF : ∀ k, k ∈ foot rb mb vc vl vu → k ∉ F) : Rd W' rb mb n s vc vl vu :=
  h.block fun k hk => ho.block k (h.lt k hk) (hF k hk)
theorem Rd.drewN (h : Rd W rb mb n s vc vl vu) (k : Nat) : Rd (W.drewN k) rb mb n s vc vl vu := h.block fun _ _ => rfl
theorem Rd.alloc (h : Rd W rb mb n s vc vl vu) (o : Obj) : Rd (W.alloc o) rb mb n s vc vl vu := h.block fun k hk => Below.heap_alloc _ _ _ (h.lt k hk)
theorem Rd.cells (h : Rd W rb mb n s vc vl vu) : W.cell? ⟨rb, 0, none⟩ = some (.int .i64 (n : Int)) ∧ W.cell? ⟨rb, 1, none⟩ = some vc ∧ W.cell? ⟨rb, 2, none⟩ = some vl ∧ W.cell? ⟨rb, 3, none⟩ = some (.map (some mb)) ∧ W.cell? ⟨rb, 4, none⟩ = some vu := by
  have e := fun j => cell_of_row W rb j _ _ (0, 0) h.r
  exact ⟨by rw [e]; rfl, by rw [e]; rfl, by rw [e]; rfl, by rw [e]; rfl, by rw [e]; rfl⟩
theorem Rd.free (h : Rd W rb mb n s vc vl vu) (j : Nat) : W.frozen? ⟨rb, j, none⟩ = false := by
  simp [World.frozen?, h.r]
/-- A store into one of the reader's fields. -/
theorem Rd.heapSet (h : Rd W rb mb n s vc vl vu) (i : Nat) (u : Value) : (W.setCell ⟨rb, i, none⟩ u).heap[rb]? = some (.cells (#[.int .i64 (n : Int), vc, vl, .map (some mb), vu].set! i u) 77 (0, 0)) := heap_setA u h.r
end
section
variable {W : World} {rb mb n : Nat} {s : AsmS} {vc vl vu : Value}
theorem tag_ne {W : World} {k : Nat} {c1 c2 : Array Value} {t1 t2 : TypeId} {f1 f2 : Nat × Nat} (h1 : W.heap[k]? = some (.cells c1 t1 f1)) (h2 : W.heap[k]? = some (.cells c2 t2 f2)) (hne : t1 ≠ t2) : False := by
  rw [h1] at h2
  simp only [Option.some.injEq, Obj.cells.injEq] at h2
  exact hne h2.2.1
theorem tag_map {W : World} {k : Nat} {c1 : Array Value} {t1 : TypeId} {f1 : Nat × Nat} {es : Array MapEntry} {cl : Nat} (h1 : W.heap[k]? = some (.cells c1 t1 f1)) (h2 : W.heap[k]? = some (.map es cl)) : False := by
  rw [h1] at h2; cases h2
/-- The reader's things lie apart. -/
theorem Rd.rm (h : Rd W rb mb n s vc vl vu) : rb ≠ mb := fun e => by
  obtain ⟨es, cl, hm⟩ := Rd.mapTag h.m
  exact tag_map h.r (e ▸ hm)
theorem Rd.cApart (h : Rd W rb mb n s vc vl vu) (k : Nat) (hk : vc.ownBlock = some k) : k ≠ rb ∧ k ≠ mb ∧ vl.ownBlock ≠ some k ∧ vu.ownBlock ≠ some k := by
  obtain ⟨c, e⟩ := ownsRow_tag h.c hk
  obtain ⟨es, cl, hm⟩ := Rd.mapTag h.m
  exact ⟨fun e1 => tag_ne e (e1 ▸ h.r) (by decide), fun e1 => tag_map e (e1 ▸ hm), fun e1 => by obtain ⟨c2, e2⟩ := ownsRow_tag h.l e1; exact tag_ne e e2 (by decide), fun e1 => by obtain ⟨c2, e2⟩ := ownsRow_tag h.u e1; exact tag_ne e e2 (by decide)⟩
theorem Rd.lApart (h : Rd W rb mb n s vc vl vu) (k : Nat) (hk : vl.ownBlock = some k) : k ≠ rb ∧ k ≠ mb ∧ vc.ownBlock ≠ some k ∧ vu.ownBlock ≠ some k := by
  obtain ⟨c, e⟩ := ownsRow_tag h.l hk
  obtain ⟨es, cl, hm⟩ := Rd.mapTag h.m
  exact ⟨fun e1 => tag_ne e (e1 ▸ h.r) (by decide), fun e1 => tag_map e (e1 ▸ hm), fun e1 => by obtain ⟨c2, e2⟩ := ownsRow_tag h.c e1; exact tag_ne e e2 (by decide), fun e1 => by obtain ⟨c2, e2⟩ := ownsRow_tag h.u e1; exact tag_ne e e2 (by decide)⟩
theorem Rd.uApart (h : Rd W rb mb n s vc vl vu) (k : Nat) (hk : vu.ownBlock = some k) : k ≠ rb ∧ k ≠ mb ∧ vc.ownBlock ≠ some k ∧ vl.ownBlock ≠ some k := by
  obtain ⟨c, e⟩ := ownsRow_tag h.u hk
  obtain ⟨es, cl, hm⟩ := Rd.mapTag h.m
  exact ⟨fun e1 => tag_ne e (e1 ▸ h.r) (by decide), fun e1 => tag_map e (e1 ▸ hm), fun e1 => by obtain ⟨c2, e2⟩ := ownsRow_tag h.c e1; exact tag_ne e e2 (by decide), fun e1 => by obtain ⟨c2, e2⟩ := ownsRow_tag h.l e1; exact tag_ne e e2 (by decide)⟩
/-- Behind the append of a block's element to a row of one's own: what stands as it stood. -/
structure Pushed (w W3 : World) (v v' : Value) : Prop where
  keep : ∀ k, k < w.heap.size → v.ownBlock ≠ some k → W3.heap[k]? = w.heap[k]?
  only : Only v.ownBlock.toList w W3
  loc : v'.ownBlock = v.ownBlock ∨ ∃ k, v'.ownBlock = some k ∧ w.heap.size ≤ k
theorem pushed {w W3 : World} {v v' : Value} {o : Obj} (hg : (w.alloc o).drew.grownBy W3 v.ownBlock) (hloc : v'.ownBlock = v.ownBlock ∨ v'.ownBlock = some (w.alloc o).drew.heap.size) : Pushed w W3 v v' := by
  have hs : (w.alloc o).drew.heap.size = w.heap.size + 1 := by simp [World.drew]
  have keep : ∀ k, k < w.heap.size → v.ownBlock ≠ some k → W3.heap[k]? = w.heap[k]? := fun k hk hne => by
    rw [hg.block k (by rw [hs]; omega) (fun e => hne e.symm)]
    exact Below.heap_alloc _ _ _ hk
  refine ⟨keep, ⟨hg.os, hg.tape, hg.output, by have := hg.size; omega, fun k hk hn => keep k hk (fun e => hn (by rw [e]; simp))⟩, ?_⟩
  rcases hloc with h | h
  · exact .inl h
  · exact .inr ⟨_, h, by rw [hs]; omega⟩
theorem only_set {F : List Nat} {w W3 : World} (h : Only F w W3) (p : Addr) (u : Value) : Only (p.block :: F) w (W3.setCell p u) := (h.mono (G := p.block :: F) (fun k hk => by simp [hk])).setCell (.inl (by simp)) u
/-- The names that are wanted, one more. -/
theorem Rd.pushU (h : Rd W rb mb n s vc vl vu) {W3 : World} {v' : Value} (hp : Pushed W W3 vu v') (q : List UInt8 × Nat × Nat) (ho : W3.ownsRow 0 119 3 v' (s.uses.length + 1) (flatUse s.uses ++ [.string (bytesA q.1), .int .i64 (q.2.1 : Int), .int .i64 (q.2.2 : Int)])) :
    (W3.cell? ⟨rb, 4, none⟩ = some vu ∧ W3.frozen? ⟨rb, 4, none⟩ = false) ∧ Rd (W3.setCell ⟨rb, 4, none⟩ v') rb mb n { s with uses := s.uses ++ [q] } vc vl v' ∧ Only (foot rb mb vc vl vu) W (W3.setCell ⟨rb, 4, none⟩ v') := by
  have hr : W3.heap[rb]? = _ := (hp.keep rb (h.lt rb (by simp [foot])) (fun e => (h.uApart rb e).1 rfl)).trans h.r
  have kp : ∀ k, k ∈ foot rb mb vc vl vu → k ≠ rb → vu.ownBlock ≠ some k → (W3.setCell ⟨rb, 4, none⟩ v').heap[k]? = W.heap[k]? := fun k hk hne hu => by
    rw [Below.heap_setCell _ _ _ _ hne]; exact hp.keep k (h.lt k hk) hu
  have hv : v'.ownBlock ≠ some rb := fun e => by
    obtain ⟨c, e2⟩ := ownsRow_tag ho e
    exact tag_ne e2 hr (by decide)
  refine ⟨⟨by rw [cell_of_row W3 rb 4 _ _ (0, 0) hr]; rfl, by simp [World.frozen?, hr]⟩, ⟨?_, ?_, ?_, ?_, ?_⟩, ?_⟩
  · rw [heap_setA v' hr]; rfl
  · exact ownsRow_block h.c fun k hk => kp k (by simp [foot, hk]) (h.cApart k hk).1 (h.cApart k hk).2.2.2
  · exact ownsRow_block h.l fun k hk => kp k (by simp [foot, hk]) (h.lApart k hk).1 (h.lApart k hk).2.2.2
  · have := ownsRow_block (W' := W3.setCell ⟨rb, 4, none⟩ v') ho fun k hk => Below.heap_setCell _ _ _ _ (fun (e : k = rb) => hv (by rw [← e]; exact hk))
    rw [List.length_append, flatUse_snoc]
    exact this
  · exact h.m.block (kp mb (by simp [foot]) h.rm.symm (fun e => (h.uApart mb e).2.1 rfl))
  · exact (only_set hp.only ⟨rb, 4, none⟩ v').mono (by simp [foot]; intro a ha; simp [ha])
end
/-- Where the new things lie: where the old ones lay, or in new memory. -/
def FootOk (w : World) (F F' : List Nat) : Prop := ∀ k ∈ F', k ∈ F ∨ w.heap.size ≤ k
theorem FootOk.refl (w : World) (F : List Nat) : FootOk w F F := fun k hk => .inl hk
theorem FootOk.trans {w w1 : World} {F F' F'' : List Nat} (h : FootOk w F F') (h' : FootOk w1 F' F'') (hs : w.heap.size ≤ w1.heap.size) : FootOk w F F'' := fun k hk => by
  rcases h' k hk with g | g
  · exact h k g
  · exact .inr (Nat.le_trans hs g)
theorem only_foot {w w1 w2 : World} {F F' : List Nat} (h : Only F w w1) (hf : FootOk w F F') (h' : Only F' w1 w2) : Only F w w2 :=
  ⟨h'.os.trans h.os, h'.tape.trans h.tape, h'.output.trans h.output, Nat.le_trans h.size h'.size, fun k hk hn => by
    rw [h'.block k (Nat.lt_of_lt_of_le hk h.size) (fun hm => by
      rcases hf k hm with g | g
      · exact hn g
      · omega)]
    exact h.block k hk hn⟩
section
variable {W : World} {rb mb n : Nat} {s : AsmS} {vc vl vu : Value}
theorem foot_ok {w : World} {vc' vl' vu' : Value} (hc : vc'.ownBlock = vc.ownBlock ∨ ∃ k, vc'.ownBlock = some k ∧ w.heap.size ≤ k) (hl : vl'.ownBlock = vl.ownBlock ∨ ∃ k, vl'.ownBlock = some k ∧ w.heap.size ≤ k) (hu : vu'.ownBlock = vu.ownBlock ∨ ∃ k, vu'.ownBlock = some k ∧ w.heap.size ≤ k) :
    FootOk w (foot rb mb vc vl vu) (foot rb mb vc' vl' vu') := fun k hk => by
  simp only [foot, List.mem_cons, List.mem_append, Option.mem_toList] at hk ⊢
  have one : ∀ {v v' : Value}, (v'.ownBlock = v.ownBlock ∨ ∃ k, v'.ownBlock = some k ∧ w.heap.size ≤ k) → k ∈ v'.ownBlock → k ∈ v.ownBlock ∨ w.heap.size ≤ k := fun {v v'} h hm => by
    rcases h with h | ⟨q, h, hq⟩
    · left; rw [← h]; exact hm
    · right; rw [h] at hm; cases hm; exact hq
  rcases hk with h | h | (h | h) | h
  · exact .inl (.inl h)
  · exact .inl (.inr (.inl h))
  · rcases one hc h with g | g
    · exact .inl (.inr (.inr (.inl (.inl g))))
    · exact .inr g
  · rcases one hl h with g | g
    · exact .inl (.inr (.inr (.inl (.inr g))))
    · exact .inr g
  · rcases one hu h with g | g
    · exact .inl (.inr (.inr (.inr g)))
    · exact .inr g
/-- The labels, one more: first in the map. -/
theorem Rd.mapped (h : Rd W rb mb n s vc vl vu) {W2 : World} (hg : W.grownBy W2 (some mb)) : (∀ k, k < W.heap.size → k ≠ mb → W2.heap[k]? = W.heap[k]?) ∧ Only [mb] W W2 :=
  ⟨fun k hk hne => hg.block k hk (fun e => hne (by simpa using e)), ⟨hg.os, hg.tape, hg.output, hg.size, fun k hk hn => hg.block k hk (fun e => hn (by simp at e; simp [e]))⟩⟩
/-- Then in their row. -/
theorem Rd.pushL (h : Rd W rb mb n s vc vl vu) {W2 W3 : World} (q : List UInt8 × Nat × Nat) (hm : MapIs W2 mb (s.labels ++ [q])) (hg : W.grownBy W2 (some mb)) {v' : Value} (hp : Pushed W2 W3 vl v')
    (ho : W3.ownsRow 0 41 2 v' (s.labels.length + 1) (flatLab s.labels ++ [.string (bytesA q.1), .int .i64 (q.2.1 : Int)])) :
    (W3.cell? ⟨rb, 2, none⟩ = some vl ∧ W3.frozen? ⟨rb, 2, none⟩ = false) ∧ Rd (W3.setCell ⟨rb, 2, none⟩ v') rb mb n { s with labels := s.labels ++ [q] } vc v' vu ∧ Only (foot rb mb vc vl vu) W (W3.setCell ⟨rb, 2, none⟩ v') := by
  obtain ⟨km, om⟩ := h.mapped hg
  have hsz := hg.size
  have hr : W3.heap[rb]? = _ := ((hp.keep rb (Nat.lt_of_lt_of_le (h.lt rb (by simp [foot])) hsz) (fun e => (h.lApart rb e).1 rfl)).trans (km rb (h.lt rb (by simp [foot])) h.rm)).trans h.r
  have kp : ∀ k, k ∈ foot rb mb vc vl vu → k ≠ rb → k ≠ mb → vl.ownBlock ≠ some k → (W3.setCell ⟨rb, 2, none⟩ v').heap[k]? = W.heap[k]? := fun k hk hne hnm hu => by
    rw [Below.heap_setCell _ _ _ _ hne, hp.keep k (Nat.lt_of_lt_of_le (h.lt k hk) hsz) hu]; exact km k (h.lt k hk) hnm
  have hv : v'.ownBlock ≠ some rb := fun e => by
    obtain ⟨c, e2⟩ := ownsRow_tag ho e
    exact tag_ne e2 hr (by decide)
  refine ⟨⟨by rw [cell_of_row W3 rb 2 _ _ (0, 0) hr]; rfl, by simp [World.frozen?, hr]⟩, ⟨?_, ?_, ?_, ?_, ?_⟩, ?_⟩
  · rw [heap_setA v' hr]; rfl
  · exact ownsRow_block h.c fun k hk => kp k (by simp [foot, hk]) (h.cApart k hk).1 (h.cApart k hk).2.1 (h.cApart k hk).2.2.1
  · have := ownsRow_block (W' := W3.setCell ⟨rb, 2, none⟩ v') ho fun k hk => Below.heap_setCell _ _ _ _ (fun (e : k = rb) => hv (by rw [← e]; exact hk))
    rw [List.length_append, flatLab_snoc]
    exact this
  · exact ownsRow_block h.u fun k hk => kp k (by simp [foot, hk]) (h.uApart k hk).1 (h.uApart k hk).2.1 (h.uApart k hk).2.2.2
  · refine hm.block ?_
    rw [Below.heap_setCell _ _ _ _ h.rm.symm]
    exact hp.keep mb hm.lt (fun e => (h.lApart mb e).2.1 rfl)
  · exact (om.mono (by simp [foot])).trans ((only_set hp.only ⟨rb, 2, none⟩ v').mono (by simp [foot]; intro a ha; simp [ha]))
/-- The instructions, one more. -/
theorem Rd.pushC (h : Rd W rb mb n s vc vl vu) {W3 : World} {v' : Value} (hp : Pushed W W3 vc v') (x : Inst) (ho : W3.ownsRow 0 44 7 v' (s.code.length + 1) (flatCs s.code ++ x.cs)) :
    (W3.cell? ⟨rb, 1, none⟩ = some vc ∧ W3.frozen? ⟨rb, 1, none⟩ = false) ∧ Rd (W3.setCell ⟨rb, 1, none⟩ v') rb mb n { s with code := s.code ++ [x] } v' vl vu ∧ Only (foot rb mb vc vl vu) W (W3.setCell ⟨rb, 1, none⟩ v') := by
  have hr : W3.heap[rb]? = _ := (hp.keep rb (h.lt rb (by simp [foot])) (fun e => (h.cApart rb e).1 rfl)).trans h.r
  have kp : ∀ k, k ∈ foot rb mb vc vl vu → k ≠ rb → vc.ownBlock ≠ some k → (W3.setCell ⟨rb, 1, none⟩ v').heap[k]? = W.heap[k]? := fun k hk hne hu => by
    rw [Below.heap_setCell _ _ _ _ hne]; exact hp.keep k (h.lt k hk) hu
  have hv : v'.ownBlock ≠ some rb := fun e => by
    obtain ⟨c, e2⟩ := ownsRow_tag ho e
    exact tag_ne e2 hr (by decide)
  refine ⟨⟨by rw [cell_of_row W3 rb 1 _ _ (0, 0) hr]; rfl, by simp [World.frozen?, hr]⟩, ⟨?_, ?_, ?_, ?_, ?_⟩, ?_⟩
  · rw [heap_setA v' hr]; rfl
  · have := ownsRow_block (W' := W3.setCell ⟨rb, 1, none⟩ v') ho fun k hk => Below.heap_setCell _ _ _ _ (fun (e : k = rb) => hv (by rw [← e]; exact hk))
    rw [List.length_append, flatCs_snoc]
    exact this
  · exact ownsRow_block h.l fun k hk => kp k (by simp [foot, hk]) (h.lApart k hk).1 (h.lApart k hk).2.2.1
  · exact ownsRow_block h.u fun k hk => kp k (by simp [foot, hk]) (h.uApart k hk).1 (h.uApart k hk).2.2.1
  · exact h.m.block (kp mb (by simp [foot]) h.rm.symm (fun e => (h.cApart mb e).2.1 rfl))
  · exact (only_set hp.only ⟨rb, 1, none⟩ v').mono (by simp [foot]; intro a ha; simp [ha])
end
/-- An append of one element to a row of one's own, behind the block in which the element was laid. -/
theorem push_any {t e : TypeId} {z : Value} {k bytes : Nat} (ht : Tryz.prog.underlying t = some (.slice e)) (hinfo : (Tryz.prog.info? e).map (fun i => (i.zero, i.size, i.bytes)) = some (some z, k, bytes)) (hz : z.cells.size = k) (hk : 0 < k) (hbb : bytes ≤ 64)
    {X : World} {v : Value} {n : Nat} {xs : List Value} (h : X.ownsRow 0 e k v n xs) (hn : n < 1000000) (g : Nat) (news : List Value) (hl : news.length = k) (hg : ∀ j u, news[j]? = some u → X.cell? ⟨g, j, none⟩ = some u) (h1 : ∀ u ∈ news, u.oneCell' = true) (ty : TypeId) :
    ∃ v' W2, (Builtin.append_ #[t, t] ty #[v, .slice (some ⟨g, 0, none⟩) 1 1]).run Tryz.prog X = .ok v' W2 ∧ W2.ownsRow 0 e k v' (n + 1) (xs ++ news) ∧ X.grownBy W2 v.ownBlock ∧ (v'.ownBlock = v.ownBlock ∨ v'.ownBlock = some X.heap.size) ∧ X.heap.size ≤ W2.heap.size := by
  obtain ⟨i0, hi0, hz0, hz1, hz2⟩ := info_parts hinfo
  obtain ⟨v', W2, a, b, c, _, d⟩ := run_append_own_at (P := Tryz.prog) (w := X) 0 t ty e i0 z k bytes ht hi0 hz0 hz1 hz2 hz hk v n xs h ⟨g, 0, none⟩ 1 1 news (by rw [hl, Nat.one_mul])
    (fun j u hu => by rw [show (⟨g, 0, none⟩ : Addr).add j = ⟨g, j, none⟩ by unfold Addr.add; split <;> simp_all]; exact hg j u hu) h1 (by simp only [maxLen]; omega) (by
      have : (n + 1) * bytes ≤ 1000000 * 64 := Nat.mul_le_mul (by omega) hbb
      omega) (Nat.zero_le _)
  exact ⟨v', W2, a, b, c, d, c.size⟩
theorem info_Use : (Tryz.prog.info? 119).map (fun i => (i.zero, i.size, i.bytes)) = some (some (.agg #[.string ByteArray.empty, .int .i64 0, .int .i64 0]), 3, 32) := by kernel_rfl
theorem info_Label : (Tryz.prog.info? 41).map (fun i => (i.zero, i.size, i.bytes)) = some (some (.agg #[.string ByteArray.empty, .int .i64 0]), 2, 24) := by kernel_rfl
theorem info_Inst : (Tryz.prog.info? 44).map (fun i => (i.zero, i.size, i.bytes)) = some (some (.agg #[.int .i64 0, .int .i64 0, .int .i64 0, .int .i64 0, .int .u64 0, .int .i64 0, .int .i64 0]), 7, 56) := by kernel_rfl
end Go.Proofs.YtneajiglkiffjaaGreatDoor
