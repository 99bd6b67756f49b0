/- The map from names to places (layer 5): what it holds, as a list of names in the order in which they were laid; looked up, written. -/
import Derived.Test.YtneajiglkiffjaaGreatDoorAsmReg
import Derived.Maps.OwnSet
import Derived.Maps.OwnOps
import Derived.KernelRfl
namespace Go.Proofs.YtneajiglkiffjaaGreatDoor
open Go.RowKit Go.Maps
set_option linter.unusedVariables false

/-- How a place reads. -/
def plR : Value → Option (DataW Unit × List MemPlace)
  | .agg ⟨[.int .i64 a, .int .i64 l]⟩ => some (.agg [.lit (.int .i64 a), .lit (.int .i64 l)], [])
  | _ => none
theorem plR_mk (a l : Int) : plR (.agg #[.int .i64 a, .int .i64 l]) = some (.agg [.lit (.int .i64 a), .lit (.int .i64 l)], []) := rfl
theorem plR_inv {v : Value} {a l : Int} {ps : List MemPlace} (h : plR v = some (.agg [.lit (.int .i64 a), .lit (.int .i64 l)], ps)) : v = .agg #[.int .i64 a, .int .i64 l] := by
  unfold plR at h
  split at h
  · simp only [Option.some.injEq, Prod.mk.injEq, DataW.agg.injEq, List.cons.injEq, DataW.lit.injEq, Lit.int.injEq, and_true, true_and] at h
    obtain ⟨⟨rfl, rfl⟩, _⟩ := h
    rfl
  · cases h
abbrev Labs := List (List UInt8 × Nat × Nat)
def plD (p : Nat × Nat) : DataW Unit := .agg [.lit (.int .i64 (p.1 : Int)), .lit (.int .i64 (p.2 : Int))]
def mapD (ls : Labs) : DataW Unit := ls.foldl (fun D p => D.put (.string p.1) (plD p.2)) (.map [])
theorem mapD_snoc (ls : Labs) (p : List UInt8 × Nat × Nat) : mapD (ls ++ [p]) = (mapD ls).put (.string p.1) (plD p.2) := by unfold mapD; rw [List.foldl_append]; rfl
theorem mapD_isMap (ls : Labs) : IsMap (mapD ls) := by
  unfold mapD
  suffices h : ∀ (ls : Labs) (D : DataW Unit), IsMap D → IsMap (ls.foldl (fun D p => D.put (.string p.1) (plD p.2)) D) from h ls _ isMap_empty
  intro ls
  induction ls with
  | nil => intro D h; exact h
  | cons p ls ih => intro D h; exact ih _ (h.put _ _)
theorem snoc_ind {P : Labs → Prop} (h0 : P []) (h1 : ∀ ls p, P ls → P (ls ++ [p])) (ls : Labs) : P ls := by
  have : ∀ n (ls : Labs), ls.length = n → P ls := by
    intro n
    induction n with
    | zero => intro ls h; rw [List.length_eq_zero_iff.1 h]; exact h0
    | succ n ih =>
      intro ls h
      obtain ⟨l, p, rfl⟩ : ∃ l p, ls = l ++ [p] := ⟨ls.dropLast, ls.getLast (by intro e; subst e; simp at h), (List.dropLast_concat_getLast _).symm⟩
      exact h1 _ _ (ih _ (by simpa using h))
  exact this _ ls rfl
theorem mapD_look (u : List UInt8) (ls : Labs) : has (mapD ls) (.string u) = (placeOf ls u).isSome ∧ (mapD ls).atKey (.string u) (plD (0, 0)) = plD ((placeOf ls u).getD (0, 0)) := by
  refine snoc_ind (P := fun ls => has (mapD ls) (.string u) = (placeOf ls u).isSome ∧ (mapD ls).atKey (.string u) (plD (0, 0)) = plD ((placeOf ls u).getD (0, 0))) ⟨rfl, rfl⟩ ?_ ls
  intro ls p ⟨h1, h2⟩
  rw [mapD_snoc]
  by_cases h : p.1 = u
  · subst h
    have e : placeOf (ls ++ [p]) p.1 = some p.2 := by unfold placeOf; rw [List.reverse_append]; simp
    rw [e, has_put_same (mapD_isMap ls) (by simp [WideAt.IsKeyLit]), atKey_put_same (mapD_isMap ls) (by simp [WideAt.IsKeyLit])]
    exact ⟨rfl, rfl⟩
  · have e : placeOf (ls ++ [p]) u = placeOf ls u := by unfold placeOf; rw [List.reverse_append]; simp [h]
    rw [e, has_put_other (fun h' => h (by cases h'; rfl)), atKey_put_other (fun h' => h (by cases h'; rfl))]
    exact ⟨h1, h2⟩
theorem place_any (ls : Labs) (u : List UInt8) : (placeOf ls u).isSome = ls.any (·.1 == u) := by
  unfold placeOf
  rw [Option.isSome_map, Bool.eq_iff_iff, List.find?_isSome, List.any_eq_true]
  simp
/-- Block mb is the map of these names. -/
def MapIs (W : World) (mb : Nat) (ls : Labs) : Prop := W.ownsMap Tryz.prog 9 plR mb ls.length (mapD ls)
theorem MapIs.lt {W : World} {mb : Nat} {ls : Labs} (h : MapIs W mb ls) : mb < W.heap.size := World.ownsMap.lt h
theorem MapIs.block {W W' : World} {mb : Nat} {ls : Labs} (h : MapIs W mb ls) (hb : W'.heap[mb]? = W.heap[mb]?) : MapIs W' mb ls := by
  obtain ⟨es, clock, h1, h2⟩ := h
  exact ⟨es, clock, hb.trans h1, h2⟩
theorem MapIs.made (W : World) : MapIs (W.alloc (.map #[] 0)) W.heap.size [] := World.ownsMap_made W Tryz.prog 9 plR
theorem zero_place (W : World) : (zeroValue 121).run Tryz.prog W = .ok (.agg #[.int .i64 0, .int .i64 0]) W := by kernel_rfl
theorem key_str (u : List UInt8) (hu : u.length ≤ maxLen) : keyOf Tryz.prog 9 (.string (bytesA u)) = some (.string u) := by
  have h := Go.WideMaps.keyOf_string_mk (P := Tryz.prog) Tryz.underlying9 (s := bytesA u) (by rw [bytesA_size]; exact hu)
  simpa using h
theorem MapIs.look {W : World} {mb : Nat} {ls : Labs} (h : MapIs W mb ls) (u : List UInt8) (hu : u.length ≤ maxLen) :
    (Instr.lookup 74 (.map (some mb)) (.string (bytesA u)) true).run Tryz.prog W = .ok (.tuple #[.agg #[.int .i64 (((placeOf ls u).getD (0, 0)).1 : Int), .int .i64 (((placeOf ls u).getD (0, 0)).2 : Int)], .bool (placeOf ls u).isSome]) W := by
  obtain ⟨v, ps, hr, hv⟩ := World.ownsMap.look_ok h (Maps.string_keyed Tryz.underlying9) Tryz.underlying74 (zero_place W) (plR_mk 0 0) (key_str u hu)
  obtain ⟨e1, e2⟩ := mapD_look u ls
  rw [show (DataW.agg [.lit (.int .i64 0), .lit (.int .i64 0)] : DataW Unit) = plD (0, 0) from rfl, e2] at hv
  rw [hr, plR_inv hv, e1]
theorem MapIs.look0 {W : World} {mb : Nat} {ls : Labs} (h : MapIs W mb ls) (u : List UInt8) (hu : u.length ≤ maxLen) :
    (Instr.lookup 74 (.map (some mb)) (.string (bytesA u)) false).run Tryz.prog W = .ok (.agg #[.int .i64 (((placeOf ls u).getD (0, 0)).1 : Int), .int .i64 (((placeOf ls u).getD (0, 0)).2 : Int)]) W := by
  obtain ⟨v, ps, hr, hv⟩ := World.ownsMap.lookup h (Maps.string_keyed Tryz.underlying9) Tryz.underlying74 (zero_place W) (plR_mk 0 0) (key_str u hu)
  obtain ⟨e1, e2⟩ := mapD_look u ls
  rw [show (DataW.agg [.lit (.int .i64 0), .lit (.int .i64 0)] : DataW Unit) = plD (0, 0) from rfl, e2] at hv
  rw [hr, plR_inv hv]
theorem MapIs.put {W : World} {mb : Nat} {ls : Labs} (h : MapIs W mb ls) (u : List UInt8) (hu : u.length ≤ maxLen) (hl : ls.length < maxLen) (a l : Nat) :
    ∃ W', (Instr.mapUpdate 74 (.map (some mb)) (.string (bytesA u)) (.agg #[.int .i64 (a : Int), .int .i64 (l : Int)])).run Tryz.prog W = .ok () W' ∧ MapIs W' mb (ls ++ [(u, a, l)]) ∧ W.grownBy W' (some mb) ∧ W'.heap.size = W.heap.size := by
  obtain ⟨W', hr, ho, hg⟩ := World.ownsMap.store h (Maps.string_keyed Tryz.underlying9) Tryz.underlying74 hl (key_str u hu) (plR_mk (a : Int) (l : Int))
  refine ⟨W', hr, ?_, hg.grown, ?_⟩
  · unfold MapIs
    rw [mapD_snoc, List.length_append]
    exact ho
  · obtain ⟨es, clock, es', clock', hb, rfl⟩ := hg
    simp [Go.ChangeMaps.setBlock]
end Go.Proofs.YtneajiglkiffjaaGreatDoor
