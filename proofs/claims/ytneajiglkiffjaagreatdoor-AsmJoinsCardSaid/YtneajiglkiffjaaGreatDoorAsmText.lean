/- Plain words on texts of instructions (layer 5), nothing of the program: how a text is read, line by line, word by word. -/
import Derived.Test.YtneajiglkiffjaaGreatDoorCodePlain
import Derived.Test.YtneajiglkiffjaaGreatDoorPlain
import Derived.Test.YtneajiglkiffjaaGreatDoorFields
import Derived.Test.YtneajiglkiffjaaGreatDoorAsmForm
namespace Go.Proofs.YtneajiglkiffjaaGreatDoor
open Go.RowKit
set_option linter.unusedVariables false

/-- The operation of that name. -/
def opP (w : List UInt8) : Option Nat := opTab.findIdx? (· == w)
/-- The register of that name. -/
def regP : List UInt8 → Option Nat
  | [] => none
  | c :: d => if c = 114 then (match readAll d with | .ok n => if n < 32 ∧ Lib.decDigits n = d then some n else none | .bad _ => none) else none
def isLow (c : UInt8) : Bool := decide (97 ≤ c.toNat) && decide (c.toNat ≤ 122)
def isLowDig (c : UInt8) : Bool := isLow c || (decide (48 ≤ c.toNat) && decide (c.toNat ≤ 57))
/-- Can it be a label's name? -/
def nameB (s : List UInt8) : Bool := decide (1 ≤ s.length) && decide (s.length ≤ 16) && isLow (s.getD 0 0) && s.all isLowDig && (regP s).isNone
/-- The text ahead of the first c, the text behind it, whether there is one. -/
def cutAt (c : UInt8) : List UInt8 → List UInt8 × List UInt8 × Bool
  | [] => ([], [], false)
  | b :: t => if b = c then ([], t, true) else (b :: (cutAt c t).1, (cutAt c t).2.1, (cutAt c t).2.2)
def numP (w : List UInt8) : Option Nat := match readAll w with | .ok n => some n | .bad _ => none
def eitherB (x : Inst) (w : List UInt8) : Option Inst := match regP w with | some n => some { x with b := n } | none => (numP w).map fun v : Nat => { x with b := -1, v := v }
def eitherC (x : Inst) (w : List UInt8) : Option Inst := match regP w with | some n => some { x with c := n } | none => (numP w).map fun v : Nat => { x with c := -1, v := v }
def cellP (x : Inst) (w : List UInt8) : Option Inst :=
  if [91].isPrefixOf w && [93].isSuffixOf (w.drop 1) then
    (match cutAt 43 (w.drop 1).dropLast with
     | (r, q, true) => (match regP r with | some n => (numP q).map fun v : Nat => { x with b := n, v := v } | none => none)
     | (_, _, false) => eitherB x (w.drop 1).dropLast)
  else none
/-- One operand is read: the instruction, and the label that is named. -/
def opdP (o : Nat) (w : List UInt8) (x : Inst) : Option (Inst × Option (List UInt8)) :=
  if o = 0 then (regP w).map fun n : Nat => ({ x with a := n }, none)
  else if o = 1 then (regP w).map fun n : Nat => ({ x with b := n }, none)
  else if o = 2 then (regP w).map fun n : Nat => ({ x with c := n }, none)
  else if o = 3 then (eitherB x w).map fun y => (y, none)
  else if o = 4 then (eitherC x w).map fun y => (y, none)
  else if o = 5 then (cellP x w).map fun y => (y, none)
  else if o = 6 then (if nameB w then some (x, some w) else none)
  else if o = 7 then (if nameB w then some (x, some w) else (numP w).map fun v : Nat => ({ x with v := v }, none))
  else (numP w).map fun v : Nat => ({ x with v := v }, none)
def opdsP : List Nat → List (List UInt8) → Inst → Option (Inst × List (List UInt8))
  | [], _, x => some (x, [])
  | o :: os, w :: ws, x => (match opdP o w x with | none => none | some (y, u) => (opdsP os ws y).map fun z => (z.1, u.toList ++ z.2))
  | _ :: _, [], _ => none
/-- A mark: its number's text, its when. -/
def markCut (w : List UInt8) : List UInt8 × Int :=
  if [62, 48].isSuffixOf (w.drop 1) then ((w.drop 1).take ((w.drop 1).length - 2), 2) else if [61, 48].isSuffixOf (w.drop 1) then ((w.drop 1).take ((w.drop 1).length - 2), 1) else (w.drop 1, 0)
def markP (x : Inst) (w : List UInt8) : Option Inst :=
  match numP (markCut w).1 with | some n => if 1 ≤ n ∧ n ≤ 99 then some { x with m := n, wh := (markCut w).2 } else none | none => none
def markedB (r : List (List UInt8)) (k : Nat) : Bool := decide (r.length = k + 1) && [33].isPrefixOf (r.getD k [])
/-- An instruction's line: the instruction, and the labels that it names. -/
def insP (l : List (List UInt8)) : Option (Inst × List (List UInt8)) :=
  match opP (l.getD 0 []) with
  | none => none
  | some op =>
    if l.tail.length ≠ (formOf op).length ∧ markedB l.tail (formOf op).length = false then none else
    match opdsP (formOf op) l.tail { inst0 with op := op } with
    | none => none
    | some (x, us) => if markedB l.tail (formOf op).length then (markP x (l.tail.getD (formOf op).length [])).map fun y => (y, us) else some (x, us)
/-- What is read by now: the instructions; the labels, each with its place and its line; the labels that are named, each with its instruction and its line. -/
structure AsmS where
  code : List Inst := []
  labels : List (List UInt8 × Nat × Nat) := []
  uses : List (List UInt8 × Nat × Nat) := []
/-- How reading goes: on, to an error that is a text's, to another error. -/
inductive AsmR (α : Type) where
  | ok (x : α)
  | text
  | err
def isLabel (ws : List (List UInt8)) : Bool := decide (ws.length = 1) && [58].isSuffixOf (ws.getD 0 [])
/-- One line. -/
def lineP (t : List UInt8) (n : Nat) (s : AsmS) : AsmR AsmS :=
  let ws := fieldsB (cutAt 59 t).1
  if ws = [] then .ok s else
  if isLabel ws then
    (if s.labels.any (·.1 == (ws.getD 0 []).dropLast) || !nameB (ws.getD 0 []).dropLast then .text else .ok { s with labels := s.labels ++ [((ws.getD 0 []).dropLast, s.code.length, n)] })
  else match insP ws with
    | none => .err
    | some (x, us) => .ok { s with code := s.code ++ [x], uses := s.uses ++ us.map fun u => (u, s.code.length, n) }
/-- The lines from the n-th on; where it goes wrong, the line. -/
def linesP : List (List UInt8) → Nat → AsmS → Sum AsmS (Option Nat)
  | [], _, s => .inl s
  | t :: r, n, s => match lineP t n s with | .ok s' => linesP r (n + 1) s' | .text => .inr (some n) | .err => .inr none
def placeOf (ls : List (List UInt8 × Nat × Nat)) (u : List UInt8) : Option (Nat × Nat) := (ls.reverse.find? (·.1 == u)).map (·.2)
/-- The labels' places are laid in. -/
def usesP (ls : List (List UInt8 × Nat × Nat)) : List (List UInt8 × Nat × Nat) → List Inst → Option (List Inst)
  | [], c => some c
  | (u, i, _) :: r, c => match placeOf ls u with | none => none | some k => usesP ls r (c.set i { c.getD i inst0 with v := k.1 })
/-- What is said of a text: instructions and labels; a text's error at a line; another error. -/
inductive PRes where
  | ok (code : List Inst) (labels : List (List UInt8 × Nat × Nat))
  | text (n : Nat)
  | err
def finishP (s : AsmS) : PRes := match usesP s.labels s.uses s.code with
  | none => .err
  | some c => if 2048 < c.length ∨ (s.labels.any fun l => l.2.1 == c.length) = true then .err else .ok c s.labels
/-- The lines of a text. -/
def linesB : List UInt8 → List (List UInt8)
  | [] => [[]]
  | c :: t => if c = 10 then [] :: linesB t else (match linesB t with | [] => [[c]] | l :: r => (c :: l) :: r)
def parseP (t : List UInt8) : PRes := if 65536 < t.length then .err else match linesP (linesB t) 0 {} with
  | .inl s => finishP s
  | .inr (some n) => .text n
  | .inr none => .err
end Go.Proofs.YtneajiglkiffjaaGreatDoor
