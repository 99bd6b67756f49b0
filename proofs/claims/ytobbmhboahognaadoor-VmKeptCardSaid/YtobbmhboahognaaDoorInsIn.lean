/- A slice of instructions (layer 4), opened to its cells; the first one that may not be. -/
import Derived.Test.YtobbmhboahognaaDoorCodePlain
import Derived.Test.YtobbmhboahognaaDoorLawClose
import Derived.Test.YtobbmhboahognaaDoorProg
import Derived.KernelRfl
namespace Go.Proofs.YtobbmhboahognaaDoor
open Go.RowKit Go.ChangeShapes Go.WideShapes
set_option linter.unusedVariables false

/-- "code". -/
def codeS : ByteArray := ⟨#[99, 111, 100, 101]⟩
/-- The cells of an instruction, as a load of it asks for them. -/
def InsAt (W : World) (q : Addr) (x : Inst) : Prop :=
  W.cell? q = some (.int .i64 x.op) ∧ W.cell? ⟨q.block, q.off + 1, none⟩ = some (.int .i64 x.a) ∧ W.cell? ⟨q.block, q.off + 2, none⟩ = some (.int .i64 x.b) ∧ W.cell? ⟨q.block, q.off + 3, none⟩ = some (.int .i64 x.c) ∧
  W.cell? ⟨q.block, q.off + 4, none⟩ = some (.int .u64 x.v) ∧ W.cell? ⟨q.block, q.off + 5, none⟩ = some (.int .i64 x.m) ∧ W.cell? ⟨q.block, q.off + 6, none⟩ = some (.int .i64 x.wh)
/-- A slice of instructions: at each place its seven fields. -/
def InsIn (W : World) (A : Option Addr) (l : List Inst) : Prop := ∀ i, i < l.length → ∃ p, A = some p ∧ p.block < W.heap.size ∧ InsAt W (p.add (i * 7)) (l.getD i inst0)
theorem InsIn.below {W W' : World} {A : Option Addr} {l : List Inst} (h : InsIn W A l) (hb : Below W.heap.size W W') : InsIn W' A l := fun i hi => by
  obtain ⟨p, e, hp, c0, c1, c2, c3, c4, c5, c6⟩ := h i hi
  have pb : (p.add (i * 7)).block < W.heap.size := by rw [ChangeShapes.block_add]; exact hp
  have k : ∀ {o : Nat} {u : Value}, W.cell? ⟨(p.add (i * 7)).block, o, none⟩ = some u → W'.cell? ⟨(p.add (i * 7)).block, o, none⟩ = some u := fun {o u} hc => by rw [hb.cell (p := ⟨_, o, none⟩) pb]; exact hc
  exact ⟨p, e, Nat.lt_of_lt_of_le hp hb.size, by rw [hb.cell pb]; exact c0, k c1, k c2, k c3, k c4, k c5, k c6⟩
theorem list_of_all {P : Nat → Inst → Prop} : ∀ n : Nat, (∀ i, i < n → ∃ x, P i x) → ∃ l : List Inst, l.length = n ∧ ∀ i, i < n → P i (l.getD i inst0)
  | 0, _ => ⟨[], rfl, fun i hi => by omega⟩
  | n + 1, h => by
    obtain ⟨l, hl, hP⟩ := list_of_all n (fun i hi => h i (by omega))
    obtain ⟨x, hx⟩ := h n (by omega)
    refine ⟨l ++ [x], by simp [hl], fun i hi => ?_⟩
    by_cases hin : i < n
    · have := hP i hin
      simpa [List.getD, List.getElem?_append_left (show i < l.length by omega)] using this
    · obtain rfl : i = n := by omega
      rw [List.getD, List.getElem?_append_right (by omega), hl]; simpa using hx
/-- What a word of an argument may be. -/
def InsOk (x : Inst) : Prop := 0 ≤ x.v ∧ x.v ≤ 18446744073709551615
theorem ins_of_trod {H : Type} {enc : TypeId × Value → H} {W : World} {A : Option Addr} {len cap : Nat} {d : DataW H} {p : List MemPlace} (h : DataW.Trod enc Tryd.prog W 0 (fun _ => true) true 22 (.slice A len cap) d p) :
    ∃ l : List Inst, l.length = len ∧ len ≤ maxLen ∧ InsIn W A l ∧ ∀ i, i < len → InsOk (l.getD i inst0) := by
  obtain ⟨hl, hi⟩ := structs_of_trod Tryd.underlying22 Tryd.underlying52 (by kernel_rfl) (by kernel_rfl) (by decide) h
  have at_ : ∀ (p : Addr) (i j : Nat) (x : Option Value), 0 < j → W.cell? (p.add (i * 7 + j)) = x → W.cell? ⟨(p.add (i * 7)).block, (p.add (i * 7)).off + j, none⟩ = x := fun p i j x hj h => by
    rw [← Go.Deep.add_add, add_pos _ _ hj] at h; exact h
  obtain ⟨l, h1, h2⟩ := list_of_all (P := fun i x => (∃ p, A = some p ∧ p.block < W.heap.size ∧ InsAt W (p.add (i * 7)) x) ∧ InsOk x) len (fun i hlt => by
    obtain ⟨p, e, hb, hf⟩ := hi i hlt
    obtain ⟨x0, e0, w0⟩ := hf 0 _ .i64 rfl Tryd.underlying3
    obtain ⟨x1, e1, w1⟩ := hf 1 _ .i64 rfl Tryd.underlying3
    obtain ⟨x2, e2, w2⟩ := hf 2 _ .i64 rfl Tryd.underlying3
    obtain ⟨x3, e3, w3⟩ := hf 3 _ .i64 rfl Tryd.underlying3
    obtain ⟨x4, e4, w4⟩ := hf 4 _ .u64 rfl Tryd.underlying47
    obtain ⟨x5, e5, w5⟩ := hf 5 _ .i64 rfl Tryd.underlying3
    obtain ⟨x6, e6, w6⟩ := hf 6 _ .i64 rfl Tryd.underlying3
    exact ⟨⟨x0, x1, x2, x3, x4, x5, x6⟩, ⟨p, e, hb, e0, at_ p i 1 _ (by omega) e1, at_ p i 2 _ (by omega) e2, at_ p i 3 _ (by omega) e3, at_ p i 4 _ (by omega) e4, at_ p i 5 _ (by omega) e5, at_ p i 6 _ (by omega) e6⟩, u64_wf w4⟩)
  exact ⟨l, h1, hl, fun i hi' => (h2 i (by omega)).1, fun i hi' => (h2 i hi').2⟩

/-- What Check says: nothing, or a place and a kind. -/
def checkRes (l : List Inst) (lib : Bool) : Option (Int × Int) := if 2048 < l.length then some (0, 3) else (firstBad l.length lib l 0).map fun i => ((i : Int), 5)
theorem firstBad_at (n : Int) (lib : Bool) : ∀ (l : List Inst) (i j : Nat), j < l.length → (∀ t, t < j → rightB (l.getD t inst0) n lib = true) → rightB (l.getD j inst0) n lib = false → firstBad n lib l i = some (i + j)
  | [], i, j, h, _, _ => by simp at h
  | x :: l, i, 0, _, _, h => by rw [firstBad, if_neg (by simpa using h)]; rfl
  | x :: l, i, j + 1, hj, h0, h => by
    have := h0 0 (by omega)
    rw [firstBad, if_pos (by simpa using this), firstBad_at n lib l (i + 1) j (by simpa using hj) (fun t ht => by simpa using h0 (t + 1) (by omega)) (by simpa using h)]
    congr 1; omega
theorem firstBad_none (n : Int) (lib : Bool) : ∀ (l : List Inst) (i : Nat), (∀ t, t < l.length → rightB (l.getD t inst0) n lib = true) → firstBad n lib l i = none
  | [], i, _ => rfl
  | x :: l, i, h => by
    have := h 0 (by simp)
    rw [firstBad, if_pos (by simpa using this)]
    exact firstBad_none n lib l (i + 1) (fun t ht => by simpa using h (t + 1) (by simpa using ht))
end Go.Proofs.YtobbmhboahognaaDoor
