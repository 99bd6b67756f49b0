/- Two printed texts, one behind the other (layer 5): plain words; the walk of the statement. -/
import Derived.Test.YtneajiglkiffjaaGreatDoorMSay
import Derived.Test.YtneajiglkiffjaaGreatDoorMBack
import Derived.Test.YtneajiglkiffjaaGreatDoorRefOf
namespace Go.Proofs.YtneajiglkiffjaaGreatDoor
open Go.RowKit
set_option linter.unusedVariables false

def digB (c : UInt8) : Bool := decide (48 ≤ c.toNat) && decide (c.toNat ≤ 57)
/-- p becomes q at a word's head, before a digit. -/
def tr : Bool → List UInt8 → List UInt8
  | _, [] => []
  | st, c :: r => (if c = 112 ∧ st = true ∧ digB (r.headD 0) = true then 113 else c) :: tr (decide (c = 10 ∨ c = 32)) r
theorem tr_len : ∀ (t : List UInt8) (st : Bool), (tr st t).length = t.length
  | [], _ => rfl
  | c :: r, st => by rw [tr, List.length_cons, tr_len r, List.length_cons]
/-- The i-th byte. -/
def trAt (st : Bool) (t : List UInt8) (i : Nat) : UInt8 :=
  if t.getD i 0 = 112 ∧ digB (t.getD (i + 1) 0) = true ∧ ((i = 0 ∧ st = true) ∨ (0 < i ∧ (t.getD (i - 1) 0 = 10 ∨ t.getD (i - 1) 0 = 32))) then 113 else t.getD i 0
theorem tr_get : ∀ (t : List UInt8) (st : Bool) (i : Nat), i < t.length → (tr st t)[i]? = some (trAt st t i)
  | [], st, i, h => by simp at h
  | c :: r, st, 0, h => by
    rw [tr, List.getElem?_cons_zero]
    congr 1
    unfold trAt
    cases r <;> simp [and_comm, and_left_comm]
  | c :: r, st, i + 1, h => by
    rw [tr, List.getElem?_cons_succ, tr_get r _ i (by simpa using h)]
    congr 1
    unfold trAt
    cases i with
    | zero => simp
    | succ i => simp
theorem tr_false : ∀ (w r : List UInt8), (∀ c ∈ w, c ≠ 10 ∧ c ≠ 32) → tr false (w ++ r) = w ++ tr false r
  | [], r, _ => rfl
  | c :: w, r, h => by
    have hc := h c (by simp)
    rw [List.cons_append, tr, if_neg (by simp), decide_eq_false (by simp [hc]), tr_false w r (fun x hx => h x (by simp [hx]))]
    rfl
theorem tr_sep (st : Bool) (c : UInt8) (hc : c = 10 ∨ c = 32) (r : List UInt8) : tr st (c :: r) = c :: tr true r := by
  rw [tr, if_neg (by rcases hc with rfl | rfl <;> simp), decide_eq_true hc]
theorem tr_word (c : UInt8) (w r : List UInt8) (hc : c ≠ 10 ∧ c ≠ 32) (hw : ∀ x ∈ w, x ≠ 10 ∧ x ≠ 32) (h : ¬ (c = 112 ∧ digB ((w ++ r).headD 0) = true)) : tr true (c :: w ++ r) = c :: w ++ tr false r := by
  rw [List.cons_append, tr, if_neg (by intro hh; exact h ⟨hh.1, hh.2.2⟩), decide_eq_false (by simp [hc]), tr_false w r hw]
  rfl
theorem tr_name (v : Int) (r : List UInt8) : tr true (nameT 112 v ++ r) = nameT 113 v ++ tr false r := by
  obtain ⟨c, d, h, h1, h2⟩ := dec_cons v
  have hn : ∀ x ∈ decT v, x ≠ 10 ∧ x ≠ 32 := fun x hx => ⟨(dec_ok v x hx).2.1, (dec_ok v x hx).1⟩
  unfold nameT
  rw [List.cons_append, tr, if_pos ⟨rfl, rfl, by rw [h]; simp [digB, h1, h2]⟩, decide_eq_false (show ¬((112 : UInt8) = 10 ∨ (112 : UInt8) = 32) by decide), tr_false _ r hn]
  rfl
/-- A word that is not a label's name. -/
theorem tr_plain (w r : List UInt8) (h : wOk w) (hc : ∀ c d, w = c :: d → c ≠ 112) : tr true (w ++ r) = w ++ tr false r := by
  obtain ⟨h1, h2⟩ := h
  cases w with
  | nil => exact (h1 rfl).elim
  | cons c d =>
    exact tr_word c d r ⟨(h2 c (by simp)).2.1, (h2 c (by simp)).1⟩ (fun x hx => ⟨(h2 x (by simp [hx])).2.1, (h2 x (by simp [hx])).1⟩) (fun hh => hc c d rfl hh.1)
theorem dec_head (v : Int) : ∀ c d, decT v = c :: d → c ≠ 112 := fun c d h e => by
  have := dec_chars v.toNat c (by unfold decT at h; rw [h]; simp)
  rw [e] at this; simp at this
theorem reg_head (v : Int) : ∀ c d, regT v = c :: d → c ≠ 112 := fun c d h => by
  unfold regT at h
  simp only [List.cons.injEq] at h
  rw [← h.1]; decide
theorem cell_head (x : Inst) : ∀ c d, cellT x = c :: d → c ≠ 112 := fun c d h => by
  unfold cellT at h
  repeat' split at h
  all_goals
    simp only [List.cons_append, List.cons.injEq] at h
    rw [← h.1]; decide
theorem tr_opd (x : Inst) (k : Nat) (r : List UInt8) : tr true (operandT 112 x k ++ r) = operandT 113 x k ++ tr false r := by
  unfold operandT
  repeat' split
  all_goals first
    | exact tr_name _ r
    | exact tr_plain _ r (reg_wok _) (reg_head _)
    | exact tr_plain _ r (dec_wok _) (dec_head _)
    | exact tr_plain _ r (cell_wok _) (cell_head _)
theorem tr_ops (x : Inst) (r : List UInt8) : ∀ ks : List Nat, tr false ((ks.map (operandT 112 x)).flatMap (fun w => 32 :: w) ++ r) = (ks.map (operandT 113 x)).flatMap (fun w => 32 :: w) ++ tr false r
  | [] => rfl
  | k :: ks => by
    rw [List.map_cons, List.flatMap_cons, List.cons_append, List.cons_append, tr_sep false 32 (.inr rfl), List.append_assoc, tr_opd, tr_ops x r ks, List.map_cons, List.flatMap_cons]
    simp
theorem ops_second : ((List.range 59).all fun k => k == 0 || !(digB ((opTab.getD k []).tail.headD 0)) && !(opTab.getD k []).tail.isEmpty) = true := by decide +kernel
theorem tr_line {x : Inst} {n : Int} (h : Fine x n) (r : List UInt8) : tr true (lineT 112 x ++ 10 :: r) = lineT 113 x ++ 10 :: tr true r := by
  have hw := op_wok h
  have h2 := List.all_eq_true.1 ops_second x.op.toNat (List.mem_range.2 (by have := h.r; omega))
  have h0 : (x.op.toNat == 0) = false := by have := h.r; simp; omega
  rw [h0, Bool.false_or, Bool.and_eq_true] at h2
  unfold lineT
  generalize opTab.getD x.op.toNat [] = w at hw h2
  have hrest : tr false ((restT 112 x).flatMap (fun w => 32 :: w) ++ 10 :: r) = (restT 113 x).flatMap (fun w => 32 :: w) ++ 10 :: tr true r := by
    unfold restT
    rw [List.flatMap_append, List.flatMap_append, List.append_assoc, List.append_assoc, tr_ops]
    congr 1
    split
    · exact tr_sep false 10 (.inl rfl) r
    · rw [List.flatMap_singleton, List.cons_append, List.cons_append, tr_sep false 32 (.inr rfl), tr_plain _ _ (mark_wok x) (fun c d e => by
        unfold markT at e
        simp only [List.cons_append, List.cons.injEq] at e
        rw [← e.1]; decide), tr_sep false 10 (.inl rfl)]
  cases w with
  | nil => exact (hw.1 rfl).elim
  | cons c d =>
    have hd : d ≠ [] := by intro e; rw [e] at h2; simp at h2
    rw [List.append_assoc, List.append_assoc, tr_word c d _ ⟨(hw.2 c (by simp)).2.1, (hw.2 c (by simp)).1⟩ (fun x hx => ⟨(hw.2 x (by simp [hx])).2.1, (hw.2 x (by simp [hx])).1⟩) (fun hh => by
      cases d with
      | nil => exact hd rfl
      | cons e f => simp at h2 hh; rw [hh.2] at h2; simp at h2), hrest]
theorem tr_lines (T : Nat → Bool) (n : Int) (z : List UInt8) : ∀ (l : List Inst) (i : Nat), (∀ x ∈ l, Fine x n) → tr true ((linesT 112 T l i).flatMap (fun t => t ++ [10]) ++ z) = (linesT 113 T l i).flatMap (fun t => t ++ [10]) ++ tr true z
  | [], i, _ => rfl
  | x :: l, i, h => by
    have ih := tr_lines T n z l (i + 1) (fun y hy => h y (by simp [hy]))
    rw [linesT, linesT]
    by_cases hT : T i = true
    · rw [if_pos hT, if_pos hT]
      simp only [List.singleton_append, List.flatMap_cons, List.append_assoc]
      rw [tr_name]
      congr 1
      show tr false ([58] ++ 10 :: (lineT 112 x ++ 10 :: ((linesT 112 T l (i + 1)).flatMap (fun t => t ++ [10]) ++ z))) = [58] ++ 10 :: (lineT 113 x ++ 10 :: ((linesT 113 T l (i + 1)).flatMap (fun t => t ++ [10]) ++ tr true z))
      rw [tr_false [58] _ (by decide), tr_sep false 10 (.inl rfl), tr_line (h x (by simp)), ih]
    · rw [if_neg hT, if_neg hT]
      simp only [List.nil_append, List.flatMap_cons, List.append_assoc]
      rw [List.singleton_append, tr_line (h x (by simp)), ih]
      rfl
end Go.Proofs.YtneajiglkiffjaaGreatDoor

namespace Go.Proofs.YtneajiglkiffjaaGreatDoor
open Go.RowKit
set_option linter.unusedVariables false

/-- An instruction whose place lies k further behind. -/
def shiftI (k : Nat) (x : Inst) : Inst := if 6 ∈ formOf x.op.toNat then { x with v := x.v + k } else x
theorem bare_shift (k : Nat) (x : Inst) : ({ bareI x with v := (shiftI k x).v } : Inst) = shiftI k x := by
  unfold bareI shiftI
  split <;> rfl
theorem name_two (a b : Int) : nameT 112 a ≠ nameT 113 b := fun h => by
  unfold nameT at h
  simp at h
/-- The second text. -/
def printQ (l : List Inst) : List UInt8 := (linesT 113 (targetB l) l 0).flatMap fun t => t ++ [10]
theorem tr_print (l : List Inst) (hf : ∀ x ∈ l, Fine x (l.length : Int)) : tr true (printT l) = printQ l := by
  have := tr_lines (targetB l) (l.length : Int) [] l 0 hf
  simpa [printT, printQ, tr] using this
theorem labsT_len (q : UInt8) (T : Nat → Bool) : ∀ (r : List Inst) (i p : Nat), (labsT q T r i p).length ≤ r.length
  | [], _, _ => by simp [labsT]
  | x :: r, i, p => by
    have := labsT_len q T r (i + 1) (p + 1)
    rw [labsT, List.length_append, List.length_cons]
    split <;> simp <;> omega
theorem join_parse (a b : List Inst) (ha : ∀ x ∈ a, Fine x (a.length : Int)) (hb : ∀ x ∈ b, Fine x (b.length : Int)) (h1 : a.length ≤ 40) (h2 : b.length ≤ 40) (hp : (printT a ++ printQ b).length ≤ 65536) :
    ∃ ls, parseP (printT a ++ printQ b) = .ok (a ++ b.map (shiftI a.length)) ls ∧ ls.length < 90 := by
  have hlines : linesB (printT a ++ printQ b) = linesT 112 (targetB a) a 0 ++ (linesT 113 (targetB b) b 0 ++ [[]]) := by
    have := linesB_more (linesT 112 (targetB a) a 0 ++ linesT 113 (targetB b) b 0) [] (fun t ht => by
      rcases List.mem_append.1 ht with g | g
      · exact linesB_none t (lines_chars 112 (.inl rfl) _ _ a 0 ha t g)
      · exact linesB_none t (lines_chars 113 (.inr rfl) _ _ b 0 hb t g))
    rw [List.append_nil, List.flatMap_append] at this
    unfold printT printQ
    rw [this, List.append_assoc]
    rfl
  obtain ⟨t1, s1, e1, c1, l1, u1⟩ := lines_back 112 (.inl rfl) (targetB a) (a.length : Int) (linesT 113 (targetB b) b 0 ++ [[]]) a 0 0 {} ha (by omega) (by simp [bare])
  have hc1 : s1.code = a.map bareI := by simpa using c1
  have hl1 : bare s1.labels = labsT 112 (targetB a) a 0 0 := by simpa [bare] using l1
  have hu1 : bare s1.uses = usesT 112 a 0 := by simpa [bare] using u1
  obtain ⟨t2, s2, e2, c2, l2, u2⟩ := lines_back 113 (.inr rfl) (targetB b) (b.length : Int) [[]] b 0 t1 s1 hb (by omega) (by
    intro p hp j _
    rw [hl1] at hp
    obtain ⟨j', _, _, rfl⟩ := (labs_mem _ _ _ _ _ _).1 hp
    exact name_two _ _)
  have hcl : s1.code.length = a.length := by rw [hc1]; simp
  rw [hc1] at c2
  rw [hl1, hcl] at l2
  rw [hu1, hcl] at u2
  have dl : (a ++ b.map (shiftI a.length)).length = a.length + b.length := by simp
  have da : ∀ j, j < a.length → (a ++ b.map (shiftI a.length)).getD j inst0 = a.getD j inst0 := fun j hj => by
    rw [List.getD_eq_getElem?_getD, List.getElem?_append_left hj, List.getD_eq_getElem?_getD]
  have db : ∀ j, j < b.length → (a ++ b.map (shiftI a.length)).getD (a.length + j) inst0 = shiftI a.length (b.getD j inst0) := fun j hj => by
    rw [List.getD_eq_getElem?_getD, List.getElem?_append_right (by omega), Nat.add_sub_cancel_left, List.getElem?_map, List.getElem?_eq_getElem hj, List.getD_eq_getElem?_getD, List.getElem?_eq_getElem hj]; rfl
  have ca : ∀ j, j < a.length → (a.map bareI ++ b.map bareI).getD j inst0 = bareI (a.getD j inst0) := fun j hj => by
    rw [List.getD_eq_getElem?_getD, List.getElem?_append_left (by simpa using hj), List.getElem?_map, List.getElem?_eq_getElem hj, List.getD_eq_getElem?_getD, List.getElem?_eq_getElem hj]; rfl
  have cb : ∀ j, j < b.length → (a.map bareI ++ b.map bareI).getD (a.length + j) inst0 = bareI (b.getD j inst0) := fun j hj => by
    rw [List.getD_eq_getElem?_getD, List.getElem?_append_right (by simp), List.length_map, Nat.add_sub_cancel_left, List.getElem?_map, List.getElem?_eq_getElem hj, List.getD_eq_getElem?_getD, List.getElem?_eq_getElem hj]; rfl
  have ma : ∀ j, j < a.length → a.getD j inst0 ∈ a := fun j hj => by
    rw [List.getD_eq_getElem?_getD, List.getElem?_eq_getElem hj]; exact List.getElem_mem _
  have mb : ∀ j, j < b.length → b.getD j inst0 ∈ b := fun j hj => by
    rw [List.getD_eq_getElem?_getD, List.getElem?_eq_getElem hj]; exact List.getElem_mem _
  have hall : usesQ (labsT 112 (targetB a) a 0 0 ++ labsT 113 (targetB b) b 0 a.length) (usesT 112 a 0 ++ usesT 113 b a.length) (a.map bareI ++ b.map bareI) = some (a ++ b.map (shiftI a.length)) := by
    refine usesQ_all _ _ _ _ (by simp) (fun y hy => ?_) (fun j hj => ?_) (fun j hj => ?_)
    · rcases List.mem_append.1 hy with g | g
      · obtain ⟨j, j1, j2, j3⟩ := (uses_mem 112 a 0 y).1 g
        rw [Nat.zero_add] at j3
        obtain ⟨h6, hu⟩ := uses_six j2
        have F := ha _ (ma j j1)
        have hv := F.pl h6
        have hv0 := F.v.1
        obtain ⟨k, hk⟩ : ∃ k : Nat, (a.getD j inst0).v = k := ⟨(a.getD j inst0).v.toNat, by omega⟩
        refine ⟨by rw [dl]; omega, k, ?_, by rw [j3, da j j1, hk]⟩
        rw [hu, hk]
        refine find_one _ _ _ (List.mem_append.2 (.inl ((labs_mem _ _ _ _ _ _).2 ⟨k, by omega, ?_, by simp⟩))) (fun p hp he => ?_)
        · rw [Nat.zero_add]
          unfold targetB
          rw [List.any_eq_true]
          exact ⟨_, ma j j1, by rw [hk, decide_eq_true rfl, List.contains_iff_mem.2 h6]; rfl⟩
        · rcases List.mem_append.1 hp with g | g
          · obtain ⟨j', _, _, rfl⟩ := (labs_mem _ _ _ _ _ _).1 g
            simp only at he ⊢
            have := nameT_inj he
            omega
          · obtain ⟨j', _, _, rfl⟩ := (labs_mem _ _ _ _ _ _).1 g
            simp only at he
            exact (name_two _ _ he.symm).elim
      · obtain ⟨j, j1, j2, j3⟩ := (uses_mem 113 b a.length y).1 g
        obtain ⟨h6, hu⟩ := uses_six j2
        have F := hb _ (mb j j1)
        have hv := F.pl h6
        have hv0 := F.v.1
        obtain ⟨k, hk⟩ : ∃ k : Nat, (b.getD j inst0).v = k := ⟨(b.getD j inst0).v.toNat, by omega⟩
        refine ⟨by rw [dl]; omega, a.length + k, ?_, by rw [j3, db j j1, shiftI, if_pos h6]; simp only [hk]; omega⟩
        rw [hu, hk]
        refine find_one _ _ _ (List.mem_append.2 (.inr ((labs_mem _ _ _ _ _ _).2 ⟨k, by omega, ?_, by simp⟩))) (fun p hp he => ?_)
        · rw [Nat.zero_add]
          unfold targetB
          rw [List.any_eq_true]
          exact ⟨_, mb j j1, by rw [hk, decide_eq_true rfl, List.contains_iff_mem.2 h6]; rfl⟩
        · rcases List.mem_append.1 hp with g | g
          · obtain ⟨j', _, _, rfl⟩ := (labs_mem _ _ _ _ _ _).1 g
            simp only at he
            exact (name_two _ _ he).elim
          · obtain ⟨j', _, _, rfl⟩ := (labs_mem _ _ _ _ _ _).1 g
            simp only at he ⊢
            have := nameT_inj he
            omega
    · rw [dl] at hj
      by_cases hja : j < a.length
      · rw [da j hja, ca j hja]; unfold bareI; rfl
      · obtain ⟨i, rfl⟩ : ∃ i, j = a.length + i := ⟨j - a.length, by omega⟩
        rw [db i (by omega), cb i (by omega)]
        exact bare_shift _ _
    · rw [dl] at hj
      by_cases hja : j < a.length
      · rw [da j hja, ca j hja]
        by_cases h6 : 6 ∈ formOf (a.getD j inst0).op.toNat
        · exact .inr ⟨_, List.mem_append.2 (.inl ((uses_mem 112 a 0 _).2 ⟨j, hja, six_uses h6, by simp⟩))⟩
        · left; unfold bareI; rw [if_neg h6]
      · obtain ⟨i, rfl⟩ : ∃ i, j = a.length + i := ⟨j - a.length, by omega⟩
        rw [db i (by omega), cb i (by omega)]
        by_cases h6 : 6 ∈ formOf (b.getD i inst0).op.toNat
        · exact .inr ⟨_, List.mem_append.2 (.inr ((uses_mem 113 b a.length _).2 ⟨i, by omega, six_uses h6, by simp⟩))⟩
        · left; unfold bareI shiftI; rw [if_neg h6, if_neg h6]
  have hline : linesP [[]] t2 s2 = .inl s2 := by
    rw [linesP, show lineP [] t2 s2 = .ok s2 from rfl]
    rfl
  refine ⟨s2.labels, ?_, ?_⟩
  · rw [parseP, if_neg (by omega), hlines, e1, e2, hline]
    simp only []
    unfold finishP
    rw [uses_bare, l2, u2, c2, hall]
    simp only []
    have hno : (s2.labels.any fun q => q.2.1 == (a ++ b.map (shiftI a.length)).length) = false := by
      rw [List.any_eq_false]
      intro p hp
      have := bare_mem hp
      rw [l2] at this
      rw [dl]
      rcases List.mem_append.1 this with g | g
      · obtain ⟨j, h1, _, h3⟩ := (labs_mem _ _ _ _ _ _).1 g
        simp only [Prod.mk.injEq] at h3
        simp; omega
      · obtain ⟨j, h1, _, h3⟩ := (labs_mem _ _ _ _ _ _).1 g
        simp only [Prod.mk.injEq] at h3
        simp; omega
    rw [if_neg (by rw [hno, dl]; simp; omega)]
  · have h3 := congrArg List.length l2
    have h4 := labsT_len 112 (targetB a) a 0 0
    have h5 := labsT_len 113 (targetB b) b 0 a.length
    rw [List.length_append] at h3
    have h6 : (bare s2.labels).length = s2.labels.length := by simp [bare]
    omega
end Go.Proofs.YtneajiglkiffjaaGreatDoor

namespace Go.Proofs.YtneajiglkiffjaaGreatDoor
open Go.RowKit
set_option linter.unusedVariables false
set_option linter.unusedSimpArgs false

/-- Is p turned there? -/
def turnB (l : List UInt8) (i : Nat) : Bool := decide (l.getD i 0 = 112 ∧ digB (l.getD (i + 1) 0) = true ∧ (i = 0 ∨ (0 < i ∧ (l.getD (i - 1) 0 = 10 ∨ l.getD (i - 1) 0 = 32))))
theorem turn_at (l : List UInt8) (i : Nat) (hi : i < l.length) : (tr true l).take (i + 1) = (tr true l).take i ++ [if turnB l i = true then 113 else l.getD i 0] := by
  rw [List.take_add_one, tr_get l true i hi]
  congr 2
  unfold trAt turnB
  simp
theorem getD_at' (s : ByteArray) (i : Nat) (hi : i < s.size) : s.data.toList.getD i 0 = s[i] := by
  rw [List.getD_eq_getElem?_getD, Array.getElem?_toList, Array.getElem?_eq_getElem (show i < s.data.size from hi)]
  rfl
theorem place_form {x : Inst} {n : Int} (h : Fine x n) : (shapeOf x.op).Place = (formOf x.op.toNat).contains 6 := by
  have hr := h.r
  obtain ⟨a1, _⟩ := forms_at x.op.toNat (by omega) (by omega)
  rw [shapeOf, if_pos hr, a1]
  rfl
theorem own_cap {W : World} {base : Nat} {e : TypeId} {size n cap : Nat} {A : Option Addr} {xs : List Value} (h : W.ownsRow base e size (.slice A n cap) n xs) : n ≤ cap := by
  rcases h.2 with ⟨_, h0⟩ | ⟨g, cap', cur, hv, _, _, hn, _⟩
  · omega
  · cases hv; exact hn
theorem parOut_cap {c : List Inst} {l : Labs} {w w' : World} {e : Ending} (h : ParOut (.ok c l) w e w') : (∃ A cap B cap2, e = .returned (.tuple #[.slice A c.length cap, .slice B l.length cap2, .nilIface]) ∧ InsIn w' A c ∧ c.length ≤ cap) ∧ Below w.heap.size w w' := by
  obtain ⟨hb, vc, vl, he, h1, h2⟩ := h
  obtain ⟨A, cap, rfl, i1⟩ := insIn_own h1
  obtain ⟨B, cap2, rfl, i2, i3⟩ := labIn_own h2
  exact ⟨⟨A, cap, B, cap2, he, i1, own_cap h1⟩, hb⟩
theorem insIn_front {W : World} {A : Option Addr} {a b : List Inst} (h : InsIn W A (a ++ b)) : InsIn W A a := fun i hi => by
  have := h i (by simp; omega)
  rwa [List.getD_eq_getElem?_getD, List.getElem?_append_left hi, ← List.getD_eq_getElem?_getD] at this
theorem insIn_back {W : World} {A : Option Addr} {a b : List Inst} (h : InsIn W A (a ++ b.map (shiftI a.length))) (i : Nat) (hi : i < b.length) : ∃ p, A = some p ∧ p.block < W.heap.size ∧ InsAt W (p.add ((a.length + i) * 7)) (shiftI a.length (b.getD i inst0)) := by
  have := h (a.length + i) (by simp; omega)
  rwa [List.getD_eq_getElem?_getD, List.getElem?_append_right (by omega), Nat.add_sub_cancel_left, List.getElem?_map, List.getElem?_eq_getElem hi, show (Option.map (shiftI a.length) (some b[i])).getD inst0 = shiftI a.length (b.getD i inst0) by rw [List.getD_eq_getElem?_getD, List.getElem?_eq_getElem hi]; rfl] at this
theorem extract_one (s : ByteArray) (i : Nat) (hi : i < s.size) : s.extract i (i + 1) = bytesA [s.data.toList.getD i 0] := by
  apply ByteArray.ext
  apply Array.ext'
  have e : (s.extract i (i + 1)).data.toList = (s.data.toList.drop i).take 1 := by simp [ByteArray.data_extract, Array.toList_extract, List.extract_eq_take_drop]
  rw [e, List.drop_eq_getElem_cons (by simpa using hi)]
  simp [List.getD_eq_getElem?_getD, List.getElem?_eq_getElem (show i < s.data.toList.length by simpa using hi)]
theorem byte_eq (c : UInt8) (n : Nat) (h : (c.toNat : Int) = n) (hn : n < 256) : c = UInt8.ofNat n := by
  apply UInt8.toNat_inj.1
  rw [UInt8.toNat_ofNat', Nat.mod_eq_of_lt hn]; omega
set_option maxHeartbeats 8000000 in
set_option maxRecDepth 100000 in
theorem asmJoins_walk (w : World) (A : Option Addr) (cap : Nat) (a : List Inst) (hr : a.length * 56 ≤ 140737488355328) (hI : InsIn w A a) (hO : ∀ i, i < a.length → InsOk (a.getD i inst0)) (B : Option Addr) (capB : Nat) (b : List Inst) (hrB : b.length * 56 ≤ 140737488355328) (hIB : InsIn w B b) (hOB : ∀ i, i < b.length → InsOk (b.getD i inst0)) (hE : ErrType w) (N : NamesAt w) (T : Pow10 w) :
    Calls Tryz.prog 5 #[.slice A a.length cap, .slice B b.length capB] w fun e w' => e = .returned (.bool true) ∧ Below w.heap.size w w' := by
  have NG : 0 < w.heap.size := World.block_lt_of_cell? _ _ (N 0 _ rfl)
  have AW := Lib.hid (show ∀ W, Below w.heap.size w W → Calls Tryz.prog 11 #[] W fun e w' => e = .returned (.bool true) ∧ Below w.heap.size w w' from fun W hW =>
    (awake_any W (names_below N hW) (Nat.lt_of_lt_of_le NG hW.size)).mono fun e w' ⟨h1, h2⟩ => ⟨h1, hW.trans (h2.mono hW.size)⟩)
  have CA := Lib.hid (fun W (hW : Below w.heap.size w W) => copyCode_any A cap a W (hI.below hW) hr)
  have CB := Lib.hid (fun W (hW : Below w.heap.size w W) => copyCode_any B capB b W (hIB.below hW) hrB)
  have PRA := Lib.hid (fun B' c W (hW : Below w.heap.size w W) (hB : InsIn W B' a) => asmPrint_any B' c a W (by omega) hB hO (errType_keep hE hW) (names_below N hW) (pow10_below hW T))
  have PRB := Lib.hid (fun B' c W (hW : Below w.heap.size w W) (hB : InsIn W B' b) => asmPrint_any B' c b W (by omega) hB hOB (errType_keep hE hW) (names_below N hW) (pow10_below hW T))
  have PA := Lib.hid (fun s (hs : s.size ≤ 9223372036854775807) W (hW : Below w.heap.size w W) => asmParse_any s hs W (names_below N hW) (Nat.lt_of_lt_of_le NG hW.size))
  have JP := Lib.hid (fun h1 h2 h3 h4 h5 => join_parse a b h1 h2 h3 h4 h5)
  have CS := Lib.hid (fun A2 cap2 W (hW : Below w.heap.size w W) (h2 : InsIn W A2 a) => code_same A2 A cap2 cap a W (by omega) h2 (hI.below hW))
  have HIB := Lib.hid (fun W (hW : Below w.heap.size w W) => hIB.below hW)
  have OF := Lib.hid (fun op W => show Calls Tryz.prog 14 #[.int .i64 op] W fun e w' => e = .returned (.agg #[.bool (shapeOf op).A, .bool (shapeOf op).B, .bool (shapeOf op).C, .bool (shapeOf op).V, .bool (shapeOf op).NoB, .bool (shapeOf op).NoC, .bool (shapeOf op).Place, .bool (shapeOf op).Is]) ∧ Below W.heap.size W w' from of_any op W)
  have HOB := Lib.hid hOB
  obtain ⟨na, hna⟩ : ∃ n, n = a.length := ⟨_, rfl⟩
  obtain ⟨nb, hnb⟩ : ∃ n, n = b.length := ⟨_, rfl⟩
  have HNA := Lib.hid hna
  have HNB := Lib.hid hnb
  rw [← hna, ← hnb]
  rw [← hna] at CA PRA CS JP
  rw [← hnb] at CB PRB HOB JP
  clear hr hI hO hrB hIB hOB hE N T NG hna hnb
  have BR := Lib.hid (Below.refl w.heap.size w)
  by_cases h1 : 40 < na
  · have i1 : (40 : Int) < (na : Int) := by omega
    clear h1
    clear CA CB PRA PRB PA JP CS HIB OF HOB HNA HNB
    go_enter Tryz.func5, Tryz.ntmps5
    go_wp2_with fail
    go_at_call 11
    refine (AW.out _ BR.out).mono ?_
    rintro e w' ⟨rfl, hb⟩
    have HBE := Lib.hid hb
    clear hb
    go_wp2_with fail
    go_ret
    exact ⟨rfl, HBE.out⟩
  have i1 : ¬ (40 : Int) < (na : Int) := by omega
  by_cases h2 : 40 < nb
  · have i2 : (40 : Int) < (nb : Int) := by omega
    clear h1 h2
    clear CA CB PRA PRB PA JP CS HIB OF HOB HNA HNB
    go_enter Tryz.func5, Tryz.ntmps5
    go_wp2_with fail
    go_at_call 11
    refine (AW.out _ BR.out).mono ?_
    rintro e w' ⟨rfl, hb⟩
    have HBE := Lib.hid hb
    clear hb
    go_wp2_with fail
    go_ret
    exact ⟨rfl, HBE.out⟩
  have i2 : ¬ (40 : Int) < (nb : Int) := by omega
  by_cases h3 : na = 0
  · subst h3
    clear h1 h2
    clear CA CB PRA PRB PA JP CS HIB OF HOB HNA HNB
    go_enter Tryz.func5, Tryz.ntmps5
    go_wp2_with fail
    go_at_call 11
    refine (AW.out _ BR.out).mono ?_
    rintro e w' ⟨rfl, hb⟩
    have HBE := Lib.hid hb
    clear hb
    go_wp2_with fail
    go_ret
    exact ⟨rfl, HBE.out⟩
  have i3 : ((na : Int) == 0) = false := beq_eq_false_iff_ne.2 (by omega)
  by_cases h4 : nb = 0
  · subst h4
    clear h1 h2 h3
    clear CA CB PRA PRB PA JP CS HIB OF HOB HNA HNB
    go_enter Tryz.func5, Tryz.ntmps5
    go_wp2_with fail
    go_at_call 11
    refine (AW.out _ BR.out).mono ?_
    rintro e w' ⟨rfl, hb⟩
    have HBE := Lib.hid hb
    clear hb
    go_wp2_with fail
    go_ret
    exact ⟨rfl, HBE.out⟩
  have i4 : ((nb : Int) == 0) = false := beq_eq_false_iff_ne.2 (by omega)
  have hna40 : na ≤ 40 := by omega
  have hnb40 : nb ≤ 40 := by omega
  have hna1 : 0 < na := by omega
  clear h1 h2 h3 h4
  go_enter Tryz.func5, Tryz.ntmps5
  go_wp2_with fail
  go_at_call 6
  refine (CA.out _ BR.out).mono ?_
  rintro e w1 ⟨B1, c1, rfl, I1, hb1, _⟩
  have P1 := Lib.hid (PRA.out B1 c1 w1 hb1 I1)
  have HB1 := Lib.hid hb1
  clear I1 hb1 CA PRA
  go_wp2_with fail
  go_at_call 7
  refine P1.out.mono ?_
  rintro e w2 ⟨hb2, r1⟩
  have HB2 := Lib.hid (HB1.out.trans (hb2.mono HB1.out.size))
  have R1 := Lib.hid r1
  clear hb2 P1 r1
  obtain ⟨s, E1, hse, D1⟩ : ∃ s E, e = .returned (.tuple #[.string s, E]) ∧ Hid ((∃ t v, E = .iface t v) ∨ (E = .nilIface ∧ s = bytesA (printT a) ∧ ∀ x ∈ a, Fine x (a.length : Int))) := by
    rcases R1.out with ⟨t, v, h⟩ | ⟨h, _, h2⟩
    · exact ⟨_, _, h, Lib.hid (.inl ⟨t, v, rfl⟩)⟩
    · exact ⟨_, _, h, Lib.hid (.inr ⟨rfl, rfl, h2⟩)⟩
  subst hse
  clear R1
  go_wp2_with fail
  go_at_call 6
  refine (CB.out _ HB2.out).mono ?_
  rintro e w3 ⟨B3, c3, rfl, I3, hb3, _⟩
  have HB3 := Lib.hid (HB2.out.trans (hb3.mono HB2.out.size))
  have P3 := Lib.hid (PRB.out B3 c3 w3 HB3.out I3)
  clear I3 hb3 CB PRB
  go_wp2_with fail
  go_at_call 7
  refine P3.out.mono ?_
  rintro e w4 ⟨hb4, r3⟩
  have HB4 := Lib.hid (HB3.out.trans (hb4.mono HB3.out.size))
  have R3 := Lib.hid r3
  clear hb4 P3 r3
  obtain ⟨t, E3, hte, D3⟩ : ∃ s E, e = .returned (.tuple #[.string s, E]) ∧ Hid ((∃ t v, E = .iface t v) ∨ (E = .nilIface ∧ s = bytesA (printT b) ∧ ∀ x ∈ b, Fine x (b.length : Int))) := by
    rcases R3.out with ⟨t, v, h⟩ | ⟨h, _, h2⟩
    · exact ⟨_, _, h, Lib.hid (.inl ⟨t, v, rfl⟩)⟩
    · exact ⟨_, _, h, Lib.hid (.inr ⟨rfl, rfl, h2⟩)⟩
  subst hte
  clear R3
  rcases D1.out with ⟨t1, v1, rfl⟩ | ⟨rfl, hs, fa⟩
  · clear D1 D3 PA JP CS HIB OF HOB
    go_wp2_with fail
    go_at_call 11
    refine (AW.out _ HB4.out).mono ?_
    rintro e w' ⟨rfl, hb⟩
    have HBE := Lib.hid hb
    clear hb
    go_wp2_with fail
    go_ret
    exact ⟨rfl, HBE.out⟩
  rcases D3.out with ⟨t1, v1, rfl⟩ | ⟨rfl, ht, fb⟩
  · clear D1 D3 PA JP CS HIB OF HOB
    go_wp2_with fail
    go_at_call 11
    refine (AW.out _ HB4.out).mono ?_
    rintro e w' ⟨rfl, hb⟩
    have HBE := Lib.hid hb
    clear hb
    go_wp2_with fail
    go_ret
    exact ⟨rfl, HBE.out⟩
  have FA := Lib.hid fa
  have FB := Lib.hid fb
  have HS := Lib.hid hs
  have HT := Lib.hid ht
  have hta : t.data.toList = printT b := by rw [ht]
  have sa : s.size ≤ 12000 := by
    have := printOn_len a fa (by rw [← HNA.out]; omega) a.length (Nat.le_refl _)
    rw [printOn_all] at this
    have e : s.size = (printT a).length := by rw [hs, bytesA_size]
    have := HNA.out
    omega
  have st : t.size ≤ 12000 := by
    have := printOn_len b fb (by rw [← HNB.out]; omega) b.length (Nat.le_refl _)
    rw [printOn_all] at this
    have e : t.size = (printT b).length := by rw [ht, bytesA_size]
    have := HNB.out
    omega
  have TA := Lib.hid (fun i (hi : i < t.size) => turn_at t.data.toList i (by simpa using hi))
  have TE := Lib.hid (show (tr true t.data.toList).take t.size = printQ b from by
    have h1 : (tr true t.data.toList).length = t.size := by rw [tr_len]; simp
    rw [← h1, List.take_length, hta, tr_print b fb])
  have SZ := Lib.hid (fun k => show (bytesA ((tr true t.data.toList).take k)).size ≤ 12000 from by
    rw [bytesA_size, List.length_take, tr_len]
    have : t.data.toList.length = t.size := by simp
    omega)
  clear D1 D3 fa fb hs ht hta
  go_wp2_with fail
  go_loop [9, 10] (fun v9 vi => ∃ i : Nat, ∃ u, i ≤ t.size ∧ vi = .int .i64 i ∧ v9 = .string u ∧ u.size ≤ 12000 ∧ Hid (u = bytesA ((tr true t.data.toList).take i))) (fun _ vi => t.size - (intOf vi).toNat)
  case atStart => exact ⟨0, ⟨#[]⟩, by omega, rfl, rfl, by decide, Lib.hid rfl⟩
  case round =>
    obtain ⟨i, u, hi, rfl, rfl, hus, HU⟩ := hrel
    by_cases hlt : i < t.size
    · obtain ⟨q, hq0⟩ : ∃ q, q = turnB t.data.toList i := ⟨_, rfl⟩
      have HQ := Lib.hid hq0
      clear hq0
      go_upto_region 11 with fail
      go_cut [102] from 60 to 102 (fun s102 w' => s102 = .bool q ∧ w4 = w')
      case first =>
       as_aux_lemma =>
        have G0 := getD_at' t i hlt
        by_cases a1 : (t[i].toNat : Int) = 112
        · have e1 : ((t[i].toNat : Int) == 112) = true := by rw [a1]; rfl
          have b1 : t[i] = 112 := byte_eq _ 112 a1 (by decide)
          by_cases a2 : i + 1 < t.size
          · have G1 := getD_at' t (i + 1) a2
            have n1 : (i : Int) + 1 < (t.size : Int) := by omega
            have n2 : ((i : Int) + 1).toNat = i + 1 := by omega
            by_cases a3 : 48 ≤ (t[i + 1].toNat : Int)
            · by_cases a4 : (t[i + 1].toNat : Int) ≤ 57
              · have dg : digB t[i + 1] = true := by unfold digB; simp; omega
                by_cases a5 : i = 0
                · subst a5
                  have dg0 : digB t[0 + 1] = true := dg
                  have hq : q = true := by
                    rw [HQ.out]; unfold turnB; exact decide_eq_true ⟨by rw [G0]; exact b1, by rw [G1]; exact dg0, .inl rfl⟩
                  subst hq
                  clear HQ HU AW PA JP CS HIB OF HOB TA TE SZ
                  go_wp2_with fail
                  go_meet
                  exact ⟨rfl, rfl⟩
                · obtain ⟨j, rfl⟩ : ∃ j, i = j + 1 := ⟨i - 1, by omega⟩
                  have e0 : (((j + 1 : Nat) : Int) == 0) = false := beq_eq_false_iff_ne.2 (by omega)
                  have p2 : IntKind.i64.wrap (((j + 1 : Nat) : Int) - 1) = (j : Int) := by
                    rw [IntWalk.i64_in _ (by omega)]; omega
                  have p3 : ((j : Int)).toNat = j := by omega
                  have p4 : j < t.size := by omega
                  have G2 := getD_at' t j p4
                  by_cases a6 : (t[j].toNat : Int) = 10
                  · have e6 : ((t[j].toNat : Int) == 10) = true := by rw [a6]; rfl
                    have hq : q = true := by
                      rw [HQ.out]; unfold turnB; exact decide_eq_true ⟨by rw [G0]; exact b1, by rw [G1]; exact dg, .inr ⟨by omega, .inl (by rw [Nat.add_sub_cancel, G2]; exact byte_eq _ 10 a6 (by decide))⟩⟩
                    subst hq
                    clear HQ HU AW PA JP CS HIB OF HOB TA TE SZ
                    go_wp2_with fail
                    go_meet
                    exact ⟨rfl, rfl⟩
                  · have e6 : ((t[j].toNat : Int) == 10) = false := beq_eq_false_iff_ne.2 a6
                    by_cases a7 : (t[j].toNat : Int) = 32
                    · have e7 : ((t[j].toNat : Int) == 32) = true := by rw [a7]; rfl
                      have hq : q = true := by
                        rw [HQ.out]; unfold turnB; exact decide_eq_true ⟨by rw [G0]; exact b1, by rw [G1]; exact dg, .inr ⟨by omega, .inr (by rw [Nat.add_sub_cancel, G2]; exact byte_eq _ 32 a7 (by decide))⟩⟩
                      subst hq
                      clear HQ HU AW PA JP CS HIB OF HOB TA TE SZ
                      go_wp2_with fail
                      go_meet
                      exact ⟨rfl, rfl⟩
                    · have e7 : ((t[j].toNat : Int) == 32) = false := beq_eq_false_iff_ne.2 a7
                      have hq : q = false := by
                        rw [HQ.out]; unfold turnB; refine decide_eq_false (fun ⟨_, _, h3⟩ => ?_); rw [Nat.add_sub_cancel, G2] at h3; rcases h3 with h3 | ⟨_, h3 | h3⟩; · omega
                        · rw [h3] at a6; exact a6 rfl
                        · rw [h3] at a7; exact a7 rfl
                      subst hq
                      clear HQ HU AW PA JP CS HIB OF HOB TA TE SZ
                      go_wp2_with fail
                      go_meet
                      exact ⟨rfl, rfl⟩
              · skip
                have hq : q = false := by
                  rw [HQ.out]; unfold turnB; refine decide_eq_false (fun ⟨_, h2, _⟩ => ?_); rw [G1] at h2; unfold digB at h2; simp at h2; omega
                subst hq
                clear HQ HU AW PA JP CS HIB OF HOB TA TE SZ
                go_wp2_with fail
                go_meet
                exact ⟨rfl, rfl⟩
            · skip
              have hq : q = false := by
                rw [HQ.out]; unfold turnB; refine decide_eq_false (fun ⟨_, h2, _⟩ => ?_); rw [G1] at h2; unfold digB at h2; simp at h2; omega
              subst hq
              clear HQ HU AW PA JP CS HIB OF HOB TA TE SZ
              go_wp2_with fail
              go_meet
              exact ⟨rfl, rfl⟩
          · have n1 : ¬ (i : Int) + 1 < (t.size : Int) := by omega
            have hq : q = false := by
              rw [HQ.out]; unfold turnB; refine decide_eq_false (fun ⟨_, h2, _⟩ => ?_); rw [List.getD_eq_getElem?_getD, List.getElem?_eq_none (by simpa using a2)] at h2; simp [digB] at h2
            subst hq
            clear HQ HU AW PA JP CS HIB OF HOB TA TE SZ
            go_wp2_with fail
            go_meet
            exact ⟨rfl, rfl⟩
        · have e1 : ((t[i].toNat : Int) == 112) = false := beq_eq_false_iff_ne.2 a1
          have hq : q = false := by
            rw [HQ.out]; unfold turnB; refine decide_eq_false (fun ⟨h1, _, _⟩ => ?_); rw [G0] at h1; rw [h1] at a1; exact a1 rfl
          subst hq
          clear HQ HU AW PA JP CS HIB OF HOB TA TE SZ
          go_wp2_with fail
          go_meet
          exact ⟨rfl, rfl⟩
      case rest =>
      obtain ⟨rfl, rfl⟩ := hcut
      have TS := Lib.hid (TA.out i hlt)
      rw [← HQ.out] at TS
      have z1 : ¬ 9223372036854775807 < u.size + 1 := by omega
      cases q with
      | true =>
        have NU := Lib.hid (show u ++ (⟨#[113]⟩ : ByteArray) = bytesA ((tr true t.data.toList).take (i + 1)) from by
          rw [TS.out, HU.out]; exact bytes_app _ [113])
        have NS : (u ++ (⟨#[113]⟩ : ByteArray)).size ≤ 12000 := by rw [NU.out]; exact SZ.out _
        have HNS := Lib.hid NS
        clear TS HQ HU NS
        go_wp2_with fail
        go_round
        case rel => exact ⟨i + 1, _, by omega, by go_num, rfl, HNS.out, NU⟩
        case measure => simp [intOf]; omega
      | false =>
        have NU := Lib.hid (show u ++ t.extract i (i + 1) = bytesA ((tr true t.data.toList).take (i + 1)) from by
          rw [TS.out, HU.out, show t.extract i (i + 1) = bytesA [t.data.toList.getD i 0] from extract_one t i hlt]; exact bytes_app _ _)
        have NS : (u ++ t.extract i (i + 1)).size ≤ 12000 := by rw [NU.out]; exact SZ.out _
        have HNS := Lib.hid NS
        have ez : (t.extract i (i + 1)).size = 1 := by simp; omega
        have z2 : (i : Int) + 1 ≤ (t.size : Int) := by omega
        have z3 : (i : Int) ≤ (i : Int) + 1 := by omega
        have z4 : ((i : Int) + 1).toNat = i + 1 := by omega
        clear TS HQ HU NS
        go_wp2_with fail
        go_round
        case rel => exact ⟨i + 1, _, by omega, by go_num, rfl, HNS.out, NU⟩
        case measure => simp [intOf]; omega
    · obtain rfl : i = t.size := by omega
      have hu : u = bytesA (printQ b) := by rw [HU.out, TE.out]
      have su : (s ++ u).data.toList = printT a ++ printQ b := by rw [hu, HS.out]; simp
      have sl : (s ++ u).size = s.size + u.size := by simp [ByteArray.size_append]
      obtain ⟨lb, hp, hlb⟩ := JP.out (by rw [HNA.out]; exact FA.out) (by rw [HNB.out]; exact FB.out) hna40 hnb40 (by
        have := congrArg List.length su
        rw [← this]
        have : (s ++ u).data.toList.length = (s ++ u).size := by simp
        omega)
      have P5 := PA.out (s ++ u) (by omega) w4 HB4.out
      rw [su, hp] at P5
      have P5b := Lib.hid (P5.mono fun e w' h => parOut_cap h)
      have ll : (a ++ b.map (shiftI na)).length = na + nb := by rw [HNA.out, HNB.out]; simp
      rw [ll] at P5b
      obtain ⟨n, hn⟩ : ∃ n, n = na + nb := ⟨_, rfl⟩
      obtain ⟨nl, hnl⟩ : ∃ n, n = lb.length := ⟨_, rfl⟩
      rw [← hn, ← hnl] at P5b
      have l90 : (nl : Int) < 90 := by omega
      have z1 : ¬ 9223372036854775807 < s.size + u.size := by omega
      have en : (n : Int) = (na : Int) + (nb : Int) := by omega
      have en2 : (((n : Int)) == (na : Int) + (nb : Int)) = true := beq_iff_eq.2 en
      have en3 : ((na : Int) + (nb : Int) == (na : Int) + (nb : Int)) = true := beq_iff_eq.2 rfl
      have HNN := Lib.hid hn
      clear P5 hp hlb su sl hu HU TE TA SZ PA JP hn hnl ll HS HT sa st hus
      go_wp2_with fail
      go_at_call 12
      refine P5b.out.mono ?_
      rintro e w5 ⟨⟨A2, cap2, B2, capB2, rfl, I2, hcap⟩, hb5⟩
      have HB5 := Lib.hid (HB4.out.trans (hb5.mono HB4.out.size))
      have I2f : InsIn w5 A2 a := insIn_front I2
      have CS2 := Lib.hid (CS.out A2 cap2 w5 HB5.out I2f)
      have HI2 := Lib.hid (show InsIn w5 A2 (a ++ b.map (shiftI a.length)) from by rw [← HNA.out]; exact I2)
      have k1 : na ≤ cap2 := by have := HNN.out; omega
      have k2 : (na : Int) ≤ (cap2 : Int) := by omega
      obtain ⟨g2, rfl, hg2⟩ : ∃ g2, A2 = some g2 ∧ True := by
        obtain ⟨p, h, _⟩ := HI2.out 0 (by rw [List.length_append, ← HNA.out]; omega)
        exact ⟨p, h, trivial⟩
      clear hb5 I2 I2f P5b CS hcap hg2
      go_wp2_with fail
      go_at_call 10
      refine CS2.out.mono ?_
      rintro e w6 ⟨rfl, hb6⟩
      have HB6 := Lib.hid (HB5.out.trans (hb6.mono HB5.out.size))
      have HI6 := Lib.hid (HI2.out.below hb6)
      clear hb6 CS2 HI2 k1 k2
      go_wp2_with fail
      go_loopw [14] (fun vi wr => ∃ i : Nat, i ≤ nb ∧ vi = .int .i64 i ∧ Hid (Below w6.heap.size w6 wr)) (fun vi _ => nb - (intOf vi).toNat)
      case atStart => exact ⟨0, by omega, rfl, Lib.hid (Below.refl _ _)⟩
      case round =>
        obtain ⟨i, hi, rfl, HBJ⟩ := hrel
        by_cases hlt : i < nb
        · obtain ⟨p, rfl, hp, c0, c1, c2, c3, c4, c5, c6⟩ := HIB.out wr (HB6.out.trans (HBJ.out.mono HB6.out.size)) i (by rw [← HNB.out]; exact hlt)
          obtain ⟨x, hx⟩ : ∃ x, x = b.getD i inst0 := ⟨_, rfl⟩
          have FX := Lib.hid (show Fine x (b.length : Int) from by rw [hx]; exact FB.out _ (by rw [List.getD_eq_getElem?_getD, List.getElem?_eq_getElem (by rw [← HNB.out]; exact hlt)]; exact List.getElem_mem _))
          rw [← hx] at c0 c1 c2 c3 c4 c5 c6
          have HX := Lib.hid hx
          obtain ⟨W4, hW4⟩ : ∃ W, W = wr.alloc (.cells #[.int .i64 x.op, .int .i64 x.a, .int .i64 x.b, .int .i64 x.c, .int .u64 x.v, .int .i64 x.m, .int .i64 x.wh] 44) := ⟨_, rfl⟩
          obtain ⟨X, hX⟩ : ∃ X, X = wr.heap.size := ⟨_, rfl⟩
          have RX4 : Row W4 X [.int .i64 x.op, .int .i64 x.a, .int .i64 x.b, .int .i64 x.c, .int .u64 x.v, .int .i64 x.m, .int .i64 x.wh] := by rw [hW4, hX]; exact Row.new wr _ _
          have X4 : X < W4.heap.size := by rw [hW4, hX]; simp
          have BZ4 : Below w6.heap.size w6 W4 := by rw [hW4]; exact HBJ.out.alloc HBJ.out.size _
          have XG := Lib.hid (show w6.heap.size ≤ X from by rw [hX]; exact HBJ.out.size)
          have OX := OF.out x.op W4
          have hpl := place_form FX.out
          have R4 := Lib.hid RX4
          have Z4 := Lib.hid BZ4
          have X4h := Lib.hid X4
          have HW4 := Lib.hid hW4
          have HXX := Lib.hid hX
          clear hx RX4 BZ4 X4
          go_upto_region 21 with fail
          rw [← hW4, ← hX]
          clear hW4 hX c0 c1 c2 c3 c4 c5 c6
          have x0 := R4.out.cell 0 (by simp)
          simp only [List.getElem_cons_zero] at x0
          cases hP : (shapeOf x.op).Place with
          | true =>
            rw [hP] at OX hpl
            generalize (shapeOf x.op).A = sA at OX
            generalize (shapeOf x.op).B = sB at OX
            generalize (shapeOf x.op).C = sC at OX
            generalize (shapeOf x.op).V = sV at OX
            generalize (shapeOf x.op).NoB = sNB at OX
            generalize (shapeOf x.op).NoC = sNC at OX
            generalize (shapeOf x.op).Is = sI at OX
            have hfd : ∀ W, (Instr.field 46 (.agg #[.bool sA, .bool sB, .bool sC, .bool sV, .bool sNB, .bool sNC, .bool true, .bool sI]) 6).run Tryz.prog W = .ok (.bool true) W := fun W => by kernel_rfl
            have h6 : 6 ∈ formOf x.op.toNat := List.contains_iff_mem.1 hpl.symm
            have HY := Lib.hid (show shiftI na x = { x with v := x.v + na } from by rw [shiftI, if_pos h6])
            have v1 := FX.out.pl h6
            have v0 := FX.out.v.1
            have vb : x.v < 40 := by have := HNB.out; omega
            have u1 : IntKind.u64.wrap (na : Int) = (na : Int) := by simp [IntKind.wrap, IntKind.signed, IntKind.bits]; omega
            have u2 : IntKind.u64.wrap (x.v + (na : Int)) = x.v + (na : Int) := by simp [IntKind.wrap, IntKind.signed, IntKind.bits]; omega
            have OXh := Lib.hid OX
            clear OX hpl h6 v1 hP
            go_wp2_with fail
            go_at_call 14
            refine OXh.out.mono ?_
            rintro e w7 ⟨rfl, hb7⟩
            have RX7 := R4.out.below hb7 X4h.out
            have y4 := RX7.cell 4 (by simp)
            have f4 := RX7.free 4 (by simp)
            simp only [List.getElem_cons_zero, List.getElem_cons_succ] at y4
            have RXS := Lib.hid (RX7.set 4 (by simp) (.int .u64 (x.v + (na : Int))))
            have BZS := Lib.hid ((Z4.out.trans (hb7.mono Z4.out.size)).setCell (p := ⟨X, 4, none⟩) XG.out (.int .u64 (x.v + (na : Int))))
            clear hb7 RX7 x0
            go_upto_region 23 with fail
            obtain ⟨W8, hW8⟩ : ∃ W, W = w7.setCell ⟨X, 4, none⟩ (.int .u64 (x.v + (na : Int))) := ⟨_, rfl⟩
            rw [← hW8] at RXS BZS ⊢
            have RX8 := RXS
            have BZ8 := BZS
            clear hW8 RXS BZS y4 f4 u1 u2 v0 vb
            have DI := Lib.hid (insIn_back (HI6.out.below BZ8.out) i (by rw [← HNB.out]; exact hlt))
            obtain ⟨p2, hp2, _, d0, d1, d2, d3, d4, d5, d6⟩ := DI.out
            cases hp2
            rw [← HNA.out, ← HX.out] at d0 d1 d2 d3 d4 d5 d6
            rw [HY.out] at d0 d1 d2 d3 d4 d5 d6
            try simp only [] at d0 d1 d2 d3 d4 d5 d6
            have x0 := RX8.out.cell 0 (by simp)
            have x1 := RX8.out.cell 1 (by simp)
            have x2 := RX8.out.cell 2 (by simp)
            have x3 := RX8.out.cell 3 (by simp)
            have x4 := RX8.out.cell 4 (by simp)
            have x5 := RX8.out.cell 5 (by simp)
            have x6 := RX8.out.cell 6 (by simp)
            simp only [List.getElem_cons_zero, List.getElem_cons_succ, List.set_cons_succ, List.set_cons_zero] at x0 x1 x2 x3 x4 x5 x6
            have s1 : (0 : Int) ≤ (na : Int) + (i : Int) := by omega
            have s2 : (na : Int) + (i : Int) < (n : Int) := by omega
            have s3 : ((na : Int) + (i : Int)).toNat = na + i := by omega
            have s4 : IntKind.i64.wrap ((na : Int) + (i : Int)) = (na : Int) + (i : Int) := IntWalk.i64_in _ (by omega)
            have BD := Lib.hid (fun k => (⟨BZ8.out.os, BZ8.out.tape, BZ8.out.output, BZ8.out.size, BZ8.out.block⟩ : Below w6.heap.size w6 (W8.drewN k)))
            clear DI RX8 BZ8 HX HY FX en en2 en3
            go_quiet (fail)
            go_wp2_with fail
            go_roundw
            case rel => exact ⟨i + 1, by omega, by go_num, Lib.hid (BD.out _)⟩
            case measure => simp [intOf]; omega
          | false =>
            rw [hP] at OX hpl
            generalize (shapeOf x.op).A = sA at OX
            generalize (shapeOf x.op).B = sB at OX
            generalize (shapeOf x.op).C = sC at OX
            generalize (shapeOf x.op).V = sV at OX
            generalize (shapeOf x.op).NoB = sNB at OX
            generalize (shapeOf x.op).NoC = sNC at OX
            generalize (shapeOf x.op).Is = sI at OX
            have hfd : ∀ W, (Instr.field 46 (.agg #[.bool sA, .bool sB, .bool sC, .bool sV, .bool sNB, .bool sNC, .bool false, .bool sI]) 6).run Tryz.prog W = .ok (.bool false) W := fun W => by kernel_rfl
            have h6 : 6 ∉ formOf x.op.toNat := fun h => by rw [List.contains_iff_mem.2 h] at hpl; cases hpl
            have HY := Lib.hid (show shiftI na x = x from by rw [shiftI, if_neg h6])
            have OXh := Lib.hid OX
            clear OX hpl h6 hP
            go_wp2_with fail
            go_at_call 14
            refine OXh.out.mono ?_
            rintro e W8 ⟨rfl, hb7⟩
            have RX8 := Lib.hid (R4.out.below hb7 X4h.out)
            have BZ8 := Lib.hid (Z4.out.trans (hb7.mono Z4.out.size))
            clear hb7 x0
            go_upto_region 23 with fail
            have DI := Lib.hid (insIn_back (HI6.out.below BZ8.out) i (by rw [← HNB.out]; exact hlt))
            obtain ⟨p2, hp2, _, d0, d1, d2, d3, d4, d5, d6⟩ := DI.out
            cases hp2
            rw [← HNA.out, ← HX.out] at d0 d1 d2 d3 d4 d5 d6
            rw [HY.out] at d0 d1 d2 d3 d4 d5 d6
            try simp only [] at d0 d1 d2 d3 d4 d5 d6
            have x0 := RX8.out.cell 0 (by simp)
            have x1 := RX8.out.cell 1 (by simp)
            have x2 := RX8.out.cell 2 (by simp)
            have x3 := RX8.out.cell 3 (by simp)
            have x4 := RX8.out.cell 4 (by simp)
            have x5 := RX8.out.cell 5 (by simp)
            have x6 := RX8.out.cell 6 (by simp)
            simp only [List.getElem_cons_zero, List.getElem_cons_succ, List.set_cons_succ, List.set_cons_zero] at x0 x1 x2 x3 x4 x5 x6
            have s1 : (0 : Int) ≤ (na : Int) + (i : Int) := by omega
            have s2 : (na : Int) + (i : Int) < (n : Int) := by omega
            have s3 : ((na : Int) + (i : Int)).toNat = na + i := by omega
            have s4 : IntKind.i64.wrap ((na : Int) + (i : Int)) = (na : Int) + (i : Int) := IntWalk.i64_in _ (by omega)
            have BD := Lib.hid (fun k => (⟨BZ8.out.os, BZ8.out.tape, BZ8.out.output, BZ8.out.size, BZ8.out.block⟩ : Below w6.heap.size w6 (W8.drewN k)))
            clear DI RX8 BZ8 HX HY FX en en2 en3
            go_quiet (fail)
            go_wp2_with fail
            go_roundw
            case rel => exact ⟨i + 1, by omega, by go_num, Lib.hid (BD.out _)⟩
            case measure => simp [intOf]; omega
        · have HBF := Lib.hid (HB6.out.trans (HBJ.out.mono HB6.out.size))
          go_wp2_with fail
          go_at_call 11
          refine (AW.out _ HBF.out).mono ?_
          rintro e w' ⟨rfl, hb⟩
          have HBE := Lib.hid hb
          clear hb
          go_wp2_with fail
          go_ret
          exact ⟨rfl, HBE.out⟩
end Go.Proofs.YtneajiglkiffjaaGreatDoor
