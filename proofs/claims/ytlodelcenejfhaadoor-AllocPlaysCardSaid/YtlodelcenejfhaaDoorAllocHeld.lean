/- The program's blocks of cells (layer 3) where nobody else has cells of the room: the memory's cells are those of the blocks; contracts of Get and Put, all outcomes. -/
import Derived.Test.YtlodelcenejfhaaDoorAllocPut
namespace Go.Proofs.YtlodelcenejfhaaDoor
open Go.RowKit Go.Shelf
set_option linter.unusedVariables false

/-- The width of the block that has a cell; 0: none has. -/
def widthOf : List Blk → Int → Int
  | [], _ => 0
  | b :: L, i => if b.p ≤ i ∧ i < b.p + b.n then b.k else widthOf L i
theorem widthOf_lt {e : Int} : ∀ {f : Int} {L : List Blk}, Chain e f L → ∀ i, i < f → widthOf L i = 0
  | f, [], _, i, _ => rfl
  | f, b :: L, ⟨h1, h2, h3⟩, i, hi => by rw [widthOf, if_neg (by omega)]; exact widthOf_lt h3 i (by omega)
theorem widthOf_ge {e : Int} : ∀ {f : Int} {L : List Blk}, Chain e f L → ∀ i, e ≤ i → widthOf L i = 0
  | f, [], _, i, _ => rfl
  | f, b :: L, ⟨h1, h2, h3⟩, i, hi => by have := h3.le; rw [widthOf, if_neg (by omega)]; exact widthOf_ge h3 i hi
theorem chain_putIn {e : Int} (b : Blk) : ∀ {f : Int} {L : List Blk}, Chain e f (putIn b L) → f ≤ b.p ∧ 1 ≤ b.n ∧ b.p + b.n ≤ e
  | f, [], ⟨h1, h2, h3⟩ => ⟨h1, h2, h3⟩
  | f, c :: L, h => by
    rw [putIn] at h
    split at h
    · obtain ⟨h1, h2, h3⟩ := h
      have := chain_putIn b h3
      omega
    · obtain ⟨h1, h2, h3⟩ := h
      have := h3.le
      omega
theorem widthOf_free {e : Int} (b : Blk) : ∀ {f : Int} {L : List Blk}, Chain e f (putIn b L) → ∀ i, b.p ≤ i → i < b.p + b.n → widthOf L i = 0
  | f, [], _, i, _, _ => rfl
  | f, c :: L, h, i, h1, h2 => by
    rw [putIn] at h
    split at h
    · obtain ⟨g1, g2, g3⟩ := h
      have := chain_putIn b g3
      rw [widthOf, if_neg (by omega)]
      exact widthOf_free b g3 i h1 h2
    · obtain ⟨g1, g2, g3⟩ := h
      exact widthOf_lt g3 i h2
theorem widthOf_put {e : Int} (b : Blk) : ∀ {f : Int} {L : List Blk}, Chain e f (putIn b L) → ∀ i, widthOf (putIn b L) i = if b.p ≤ i ∧ i < b.p + b.n then b.k else widthOf L i
  | f, [], _, i => rfl
  | f, c :: L, h, i => by
    rw [putIn] at h ⊢
    split at h
    · rename_i hc
      obtain ⟨g1, g2, g3⟩ := h
      have := chain_putIn b g3
      rw [if_pos hc, widthOf, widthOf_put b g3 i, widthOf]
      by_cases hi : c.p ≤ i ∧ i < c.p + c.n
      · rw [if_pos hi, if_neg (by omega), if_pos hi]
      · rw [if_neg hi, if_neg hi]
    · rename_i hc
      rw [if_neg hc, widthOf]
theorem widthOf_at {e : Int} : ∀ {f : Int} {L : List Blk}, Chain e f L → ∀ j, j < L.length → ∀ i, (L.getD j blk0).p ≤ i → i < (L.getD j blk0).p + (L.getD j blk0).n → widthOf L i = (L.getD j blk0).k
  | f, [], _, j, hj, i, _, _ => by simp at hj
  | f, c :: L, h, 0, _, i, h1, h2 => by
    rw [widthOf, if_pos (by simp at h1 h2; exact ⟨h1, h2⟩)]; simp
  | f, c :: L, ⟨g1, g2, g3⟩, j + 1, hj, i, h1, h2 => by
    have := (g3.up j (by simpa using hj)).1
    simp only [List.getD_cons_succ] at h1 h2 ⊢
    rw [widthOf, if_neg (by omega)]
    exact widthOf_at g3 j (by simpa using hj) i h1 h2
theorem widthOf_out {e : Int} : ∀ {f : Int} {L : List Blk}, Chain e f L → ∀ j, j < L.length → ∀ i, widthOf (takeOut (L.getD j blk0).p L) i = if (L.getD j blk0).p ≤ i ∧ i < (L.getD j blk0).p + (L.getD j blk0).n then 0 else widthOf L i
  | f, [], _, j, hj, i => by simp at hj
  | f, c :: L, ⟨g1, g2, g3⟩, 0, _, i => by
    simp only [List.getD_cons_zero, takeOut, if_true]
    split
    · rename_i h; exact widthOf_lt g3 i h.2
    · rename_i h; rw [widthOf, if_neg h]
  | f, c :: L, ⟨g1, g2, g3⟩, j + 1, hj, i => by
    have hj' : j < L.length := by simpa using hj
    have h1 := (g3.up j hj').1
    have h2 := (g3.up j hj').2.1
    simp only [List.getD_cons_succ]
    rw [takeOut, if_neg (by omega), widthOf, widthOf_out g3 j hj' i, widthOf]
    by_cases hi : c.p ≤ i ∧ i < c.p + c.n
    · rw [if_pos hi, if_pos hi, if_neg (by omega)]
    · rw [if_neg hi, if_neg hi]
theorem usedOf_out {e : Int} : ∀ {f : Int} {L : List Blk}, Chain e f L → ∀ j, j < L.length → usedOf (takeOut (L.getD j blk0).p L) = usedOf L - (L.getD j blk0).n
  | f, [], _, j, hj => by simp at hj
  | f, c :: L, ⟨g1, g2, g3⟩, 0, _ => by simp only [List.getD_cons_zero, takeOut, if_true, usedOf]; omega
  | f, c :: L, ⟨g1, g2, g3⟩, j + 1, hj => by
    have hj' : j < L.length := by simpa using hj
    have h1 := (g3.up j hj').1
    simp only [List.getD_cons_succ]
    rw [takeOut, if_neg (by omega), usedOf, usedOf, usedOf_out g3 j hj']; omega
theorem mem_putIn (b : Blk) : ∀ (L : List Blk) (c : Blk), c ∈ putIn b L → c = b ∨ c ∈ L
  | [], c, h => by simpa [putIn] using h
  | d :: L, c, h => by
    rw [putIn] at h
    split at h
    · rcases List.mem_cons.1 h with rfl | h
      · exact .inr (by simp)
      · rcases mem_putIn b L c h with h | h
        · exact .inl h
        · exact .inr (List.mem_cons_of_mem _ h)
    · rcases List.mem_cons.1 h with rfl | h
      · exact .inl rfl
      · exact .inr h
theorem mem_takeOut (p : Int) : ∀ (L : List Blk) (c : Blk), c ∈ takeOut p L → c ∈ L
  | [], c, h => h
  | d :: L, c, h => by
    rw [takeOut] at h
    split at h
    · exact List.mem_cons_of_mem _ h
    · rcases List.mem_cons.1 h with rfl | h
      · simp
      · exact List.mem_cons_of_mem _ (mem_takeOut p L c h)

/-- The blocks over the memory, which has no other cells; between 0 and its end. -/
structure Rm (w : World) (a mb mc B : Nat) (v : Value) (L : List Blk) (m : Cells) : Prop where
  al : Alc w a mb mc B 0 m.ws.length v L m (usedOf L)
  hw : ∀ i : Nat, widthAt m.ws i = widthOf L i
  hk : ∀ b ∈ L, b.k = 64 ∨ b.k = 32

/-- May a block be so? -/
def okArg (n k : Int) : Prop := 1 ≤ n ∧ n ≤ 4096 ∧ (k = 64 ∨ k = 32)

section
variable {w : World} {a mb mc B : Nat} {v : Value} {L : List Blk} {m : Cells}
theorem Rm.below {w' : World} (h : Rm w a mb mc B v L m) (hb : Below w.heap.size w w') : Rm w' a mb mc B v L m := ⟨h.al.below hb, h.hw, h.hk⟩
theorem Rm.bound (h : Rm w a mb mc B v L m) : 0 ≤ usedOf L ∧ usedOf L ≤ 2147483648 := by
  have := h.al.ch.used; have := h.al.he; omega

/-- What Get leaves where it takes cells of the room. -/
def RmGot (a mb mc B : Nat) (v : Value) (L : List Blk) (c : Int) (p n k : Int) (w : World) (en : Ending) (w' : World) : Prop := ∃ v' m', en = .returned (.tuple #[.int .i64 p, .nilIface]) ∧ Rm w' a mb mc B v' (putIn ⟨p, n, k⟩ L) m' ∧ (m'.ws.length : Int) = c ∧
  (∀ j, v'.ownBlock = some j → v.ownBlock = some j ∨ w.heap.size ≤ j) ∧ Only (a :: mb :: mc :: v.ownBlock.toList) w w'
theorem rm_got (h : Rm w a mb mc B v L m) (n k p : Int) (hok : okArg n k) (hg : firstGap n (gaps m.ws.length 0 L) = some p) :
    Calls Tryd.prog 22 #[.pointer (some ⟨a, 0, none⟩), .int .i64 n, .int .i64 k] w (RmGot a mb mc B v L m.ws.length p n k w) := by
  obtain ⟨h1, h2, h3⟩ := hok
  obtain ⟨hch, hp0, hpe⟩ := h.al.ch.put h1 k hg
  obtain ⟨n', rfl⟩ : ∃ x : Nat, n = x := ⟨n.toNat, by omega⟩
  obtain ⟨p', rfl⟩ : ∃ x : Nat, p = x := ⟨p.toNat, by omega⟩
  have hf : firstNZ m.ws p' n' = none := firstNZ_of _ _ _ fun j hj1 hj2 => by
    have := h.hw j
    rw [widthOf_free ⟨(p' : Int), n', k⟩ hch j (by simp; omega) (by simp; omega)] at this
    exact this
  have hb := h.bound
  refine (get_done h.al p' n' k (by omega) (by omega) h3 hg (by omega) hf hb.1 hb.2).mono ?_
  rintro en w' ⟨v', rfl, hA, hj, ho⟩
  refine ⟨v', { ws := fillIn k m.ws p' n', hs := fillIn 0 m.hs p' n', n := m.n }, rfl, ⟨?_, fun i => ?_, fun b hbm => ?_⟩, by rw [fillIn_length], hj, ho⟩
  · rw [fillIn_length, usedOf_putIn]; exact hA
  · rw [widthOf_put ⟨(p' : Int), n', k⟩ hch]
    show (fillIn k m.ws p' n').getD i 0 = _
    rw [fillIn_getD _ _ _ _ _ (by omega)]
    by_cases hi : p' ≤ i ∧ i < p' + n'
    · rw [if_pos hi, if_pos (by simp; omega)]
    · rw [if_neg hi, if_neg (by simp; omega)]; exact h.hw i
  · rcases mem_putIn _ _ _ hbm with rfl | hm
    · exact h3
    · exact h.hk b hm

/-- What Put leaves where it gives cells of the room back. -/
def RmGave (a mb mc B : Nat) (v : Value) (L : List Blk) (c : Int) (p : Int) (w : World) (en : Ending) (w' : World) : Prop := ∃ v' m', en = .returned .nilIface ∧ Rm w' a mb mc B v' (takeOut p L) m' ∧ (m'.ws.length : Int) = c ∧
  (∀ j, v'.ownBlock = some j → v.ownBlock = some j ∨ w.heap.size ≤ j) ∧ Only (a :: mb :: mc :: v.ownBlock.toList) w w'
theorem rm_gave (h : Rm w a mb mc B v L m) (p : Int) (j : Nat) (hj : j < L.length) (hp : (L.getD j blk0).p = p) :
    Calls Tryd.prog 16 #[.pointer (some ⟨a, 0, none⟩), .int .i64 p] w (RmGave a mb mc B v L m.ws.length p w) := by
  have hu := h.al.ch.up j hj
  have hmem : L.getD j blk0 ∈ L := by simp [hj]
  have hkk := h.hk _ hmem
  have hwa := widthOf_at h.al.ch j hj
  have hwo := widthOf_out h.al.ch j hj
  have huo := usedOf_out h.al.ch j hj
  rw [hp] at hu hwa hwo huo
  obtain ⟨n', hn'⟩ : ∃ x : Nat, (L.getD j blk0).n = x := ⟨(L.getD j blk0).n.toNat, by omega⟩
  rw [hn'] at hu hwa hwo huo
  obtain ⟨p', rfl⟩ : ∃ x : Nat, p = x := ⟨p.toNat, by omega⟩
  have hf : firstZ m.ws p' n' = none := firstZ_of _ _ _ fun i hi1 hi2 => by
    have := h.hw i
    rw [hwa i (by omega) (by omega)] at this
    show ¬ widthAt m.ws i = 0
    rw [this]; omega
  have hb := h.bound
  refine (put_done h.al p' n' j hj hp hn' (by omega) (by omega) hf hb.1 hb.2).mono ?_
  rintro en w' ⟨v', rfl, hA, hj', ho⟩
  refine ⟨v', { ws := fillIn 0 m.ws p' n', hs := fillIn 0 m.hs p' n', n := m.n }, rfl, ⟨?_, fun i => ?_, fun b hbm => h.hk b (mem_takeOut _ _ _ hbm)⟩, by rw [fillIn_length], hj', ho⟩
  · rw [fillIn_length, huo]; exact hA
  · rw [hwo]
    show (fillIn 0 m.ws p' n').getD i 0 = _
    rw [fillIn_getD _ _ _ _ _ (by omega)]
    by_cases hi : p' ≤ i ∧ i < p' + n'
    · rw [if_pos hi, if_pos (by omega)]
    · rw [if_neg hi, if_neg (by omega)]; exact h.hw i

/-- Any Get of the room, the results left open. -/
def RmAny (a mb mc B : Nat) (v : Value) (L' : List Blk) (c : Int) (w : World) (w' : World) : Prop := ∃ v' m', Rm w' a mb mc B v' L' m' ∧ (m'.ws.length : Int) = c ∧
  (∀ j, v'.ownBlock = some j → v.ownBlock = some j ∨ w.heap.size ≤ j) ∧ Only (a :: mb :: mc :: v.ownBlock.toList) w w'
theorem RmAny.same {w' : World} (h : Rm w a mb mc B v L m) (hb : Below w.heap.size w w') : RmAny a mb mc B v L m.ws.length w w' := ⟨v, m, h.below hb, rfl, fun _ hj => .inl hj, Only.of_below hb⟩
theorem rm_get (h : Rm w a mb mc B v L m) (n k : Int) :
    Calls Tryd.prog 22 #[.pointer (some ⟨a, 0, none⟩), .int .i64 n, .int .i64 k] w fun en w' => ∃ r0 ty r1, en = .returned (.tuple #[.int .i64 r0, ty]) ∧ (ty = .nilIface ∨ ty = .iface 89 (.pointer r1)) ∧ ∃ L', L'.length ≤ L.length + 1 ∧ RmAny a mb mc B v L' m.ws.length w w' := by
  by_cases hok : okArg n k
  · cases hg : firstGap n (gaps m.ws.length 0 L) with
    | some p =>
      refine (rm_got h n k p hok hg).mono ?_
      rintro en w' ⟨v', m', rfl, hr, hl, hj, ho⟩
      exact ⟨p, _, none, rfl, .inl rfl, _, by rw [putIn_length]; omega, v', m', hr, hl, hj, ho⟩
    | none =>
      refine (get_room h.al n k hok.1 hok.2.1 hok.2.2 hg).mono ?_
      rintro en w' ⟨x, rfl, _, _, hb⟩
      exact ⟨0, _, _, rfl, .inr rfl, L, by omega, RmAny.same h hb⟩
  · refine (get_arg _ n k (by unfold okArg at hok; omega) w).mono ?_
    rintro en w' ⟨x, rfl, _, _, hb⟩
    exact ⟨0, _, _, rfl, .inr rfl, L, by omega, RmAny.same h hb⟩
theorem rm_put (h : Rm w a mb mc B v L m) (x : Int) :
    Calls Tryd.prog 16 #[.pointer (some ⟨a, 0, none⟩), .int .i64 x] w fun en w' => ∃ ty r1, en = .returned ty ∧ (ty = .nilIface ∨ ty = .iface 89 (.pointer r1)) ∧ ∃ L', L'.length ≤ L.length ∧ RmAny a mb mc B v L' m.ws.length w w' := by
  by_cases hx : ∃ j, j < L.length ∧ (L.getD j blk0).p = x
  · obtain ⟨j, hj, hp⟩ := hx
    refine (rm_gave h x j hj hp).mono ?_
    rintro en w' ⟨v', m', rfl, hr, hl, hj', ho⟩
    exact ⟨_, none, rfl, .inl rfl, _, takeOut_length _ _, v', m', hr, hl, hj', ho⟩
  · refine (put_none h.al x (fun j hj hp => hx ⟨j, hj, hp⟩)).mono ?_
    rintro en w' ⟨y, rfl, _, _, hb⟩
    exact ⟨_, _, rfl, .inr rfl, L, by omega, RmAny.same h hb⟩
end
end Go.Proofs.YtlodelcenejfhaaDoor
