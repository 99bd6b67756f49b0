/- Towards the contract of package asm's readIns (layer 5): a line's words are an instruction, or an error. The conditions: the reader's things and the words lie there, in blocks apart; the table of names holds the names; each word has at most 65536 bytes; fewer than 999990 instructions and names are there by now. -/
import Derived.Test.YtneajiglkiffjaaGreatDoorAsmOpd
import Derived.Test.YtneajiglkiffjaaGreatDoorAsmOp
import Derived.Test.YtneajiglkiffjaaGreatDoorOpsOf
namespace Go.Proofs.YtneajiglkiffjaaGreatDoor
open Go.RowKit
set_option linter.unusedVariables false

/-- These words lie there. -/
structure StrsIn (W : World) (A : Nat) (ws : List (List UInt8)) : Prop where
  lt : A < W.heap.size
  cell : ∀ i, i < ws.length → W.cell? ⟨A, i, none⟩ = some (.string (bytesA (ws.getD i [])))
theorem StrsIn.block {W W' : World} {A : Nat} {ws : List (List UInt8)} (h : StrsIn W A ws) (hb : W'.heap[A]? = W.heap[A]?) : StrsIn W' A ws := by
  refine ⟨?_, fun i hi => by rw [World.cell?_of_block (w := W) (w' := W') (a := ⟨A, i, none⟩) hb]; exact h.cell i hi⟩
  rcases Nat.lt_or_ge A W'.heap.size with g | g
  · exact g
  · have := h.lt
    rw [Array.getElem?_eq_none g, Array.getElem?_eq_getElem this] at hb; cases hb
theorem form_le (op : Nat) : (formOf op).length ≤ 3 := by
  unfold formOf
  by_cases h : op < formTab.length
  · have : ∀ k : Fin 59, (formTab.getD k []).length ≤ 3 := by decide
    exact this ⟨op, h⟩
  · rw [List.getD_eq_getElem?_getD, List.getElem?_eq_none (by omega)]; simp
theorem form_kind (op i : Nat) : (formOf op).getD i 0 ≤ 8 := by
  unfold formOf
  by_cases h : op < formTab.length
  · have : ∀ k : Fin 59, ∀ x ∈ formTab.getD k [], x ≤ 8 := by decide
    have h2 := this ⟨op, h⟩
    rw [List.getD_eq_getElem?_getD]
    cases hx : (formTab.getD op [])[i]? with
    | none => simp
    | some x => exact h2 x (List.mem_of_getElem? hx)
  · rw [List.getD_eq_getElem?_getD (l := formTab), List.getElem?_eq_none (by omega)]; simp
theorem opds_step (ks : List Nat) (r : List (List UInt8)) (i : Nat) (hk : i < ks.length) (hr : i < r.length) (y : Inst) :
    opdsP (ks.drop i) (r.drop i) y = match opdP (ks.getD i 0) (r.getD i []) y with | none => none | some (z, u) => (opdsP (ks.drop (i + 1)) (r.drop (i + 1)) z).map fun q => (q.1, u.toList ++ q.2) := by
  rw [List.drop_eq_getElem_cons hk, List.drop_eq_getElem_cons hr, opdsP, List.getD_eq_getElem?_getD, List.getElem?_eq_getElem hk, List.getD_eq_getElem?_getD, List.getElem?_eq_getElem hr]
  simp only [Option.getD_some]
  cases opdP ks[i] r[i] y with
  | none => rfl
  | some z => rfl
theorem inst_eta (x : Inst) : (⟨x.op, x.a, x.b, x.c, x.v, x.m, x.wh⟩ : Inst) = x := rfl
/-- Reading operands never sets a When. -/
theorem opd_wh (o : Nat) (w : List UInt8) (x y : Inst) (u : Option (List UInt8)) (h : opdP o w x = some (y, u)) : y.wh = x.wh := by
  unfold opdP eitherB eitherC cellP at h
  split at h
  · cases hr : regP w <;> rw [hr] at h <;> simp at h; rw [← h.1]
  split at h
  · cases hr : regP w <;> rw [hr] at h <;> simp at h; rw [← h.1]
  split at h
  · cases hr : regP w <;> rw [hr] at h <;> simp at h; rw [← h.1]
  split at h
  · cases hr : regP w with
    | some k => rw [hr] at h; simp at h; rw [← h.1]
    | none => rw [hr] at h; cases hn : numP w <;> rw [hn] at h <;> simp at h; rw [← h.1]
  split at h
  · cases hr : regP w with
    | some k => rw [hr] at h; simp at h; rw [← h.1]
    | none => rw [hr] at h; cases hn : numP w <;> rw [hn] at h <;> simp at h; rw [← h.1]
  split at h
  · split at h
    · rcases hc : cutAt 43 (w.drop 1).dropLast with ⟨r, q, _ | _⟩
      · rw [hc] at h
        simp only [eitherB] at h
        cases hr : regP (w.drop 1).dropLast with
        | some k => rw [hr] at h; simp at h; rw [← h.1]
        | none => rw [hr] at h; cases hn : numP (w.drop 1).dropLast <;> rw [hn] at h <;> simp at h; rw [← h.1]
      · rw [hc] at h
        simp only [] at h
        cases hr : regP r with
        | none => rw [hr] at h; simp at h
        | some k => rw [hr] at h; cases hn : numP q <;> rw [hn] at h <;> simp at h; rw [← h.1]
    · simp at h
  split at h
  · split at h
    · simp at h; rw [← h.1]
    · simp at h
  split at h
  · split at h
    · simp at h; rw [← h.1]
    · cases hn : numP w <;> rw [hn] at h <;> simp at h; rw [← h.1]
  · cases hn : numP w <;> rw [hn] at h <;> simp at h; rw [← h.1]
/-- What readIns leaves. -/
def InsOut (r : Option (Inst × List (List UInt8))) (rb mb n : Nat) (s : AsmS) (vc vl vu : Value) (w : World) (e : Ending) (w' : World) : Prop := match r with
  | none => (∃ t v, e = .returned (.iface t v)) ∧ Only (foot rb mb vc vl vu) w w'
  | some (x, us) => e = .returned .nilIface ∧ ∃ vc' vu', Rd w' rb mb n { s with code := s.code ++ [x], uses := s.uses ++ us.map fun u => (u, s.code.length, n) } vc' vl vu' ∧ Only (foot rb mb vc vl vu) w w' ∧ FootOk w (foot rb mb vc vl vu) (foot rb mb vc' vl vu')
/-- The conditions. -/
structure InsIn' (ws : List (List UInt8)) (A rb mb n : Nat) (s : AsmS) (vc vl vu : Value) (w : World) : Prop where
  h1 : 1 ≤ ws.length
  hn : ws.length ≤ 65537
  hl : ∀ l ∈ ws, l.length ≤ 65536
  hA : StrsIn w A ws
  hF : A ∉ foot rb mb vc vl vu
  hR : Rd w rb mb n s vc vl vu
  hC : s.code.length < 999990
  hU : s.uses.length < 999990
  hN : NamesAt w
  hg : 0 < w.heap.size
end Go.Proofs.YtneajiglkiffjaaGreatDoor
