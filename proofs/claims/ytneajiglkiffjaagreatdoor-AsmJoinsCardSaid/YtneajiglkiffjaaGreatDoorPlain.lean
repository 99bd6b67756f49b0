/- Plain words on numerals, nothing of the program: what a byte is worth, and how a numeral is read from the left, with the place at which it fails. -/
import Derived.Lib.ItoaNum
namespace Go.Proofs.YtneajiglkiffjaaGreatDoor

/-- What a byte is worth in a numeral; 16: it is no digit. -/
def dig (c : Nat) : Nat := if 48 ≤ c ∧ c ≤ 57 then c - 48 else if 97 ≤ c ∧ c ≤ 102 then c - 87 else if 65 ≤ c ∧ c ≤ 70 then c - 55 else 16
theorem dig_le (c : Nat) : dig c ≤ 16 := by unfold dig; split; · omega
                                            split; · omega
                                            split <;> omega

/-- The same with 99 for no digit. -/
def dig99 (c : Nat) : Nat := if dig c = 16 then 99 else dig c

/-- How reading ends: the value, or the place of the fault. -/
inductive Read
  | ok (v : Nat)
  | bad (n : Nat)

/-- Reading goes on: the bytes that are left, the place of the first of them, the value so far. -/
def readOn (base from' most : Nat) : List UInt8 → Nat → Nat → Read
  | [], i, v => if i = from' then .bad from' else .ok v
  | c :: r, i, v => if base ≤ dig c.toNat ∨ i = from' + most ∨ 18446744073709551616 ≤ v * base + dig c.toNat then .bad i else readOn base from' most r (i + 1) (v * base + dig c.toNat)

/-- The whole text. -/
def readAll (l : List UInt8) : Read := if [48, 120].isPrefixOf l then readOn 16 2 16 (l.drop 2) 2 0 else readOn 10 0 20 l 0 0

end Go.Proofs.YtneajiglkiffjaaGreatDoor
