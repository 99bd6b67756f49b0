/- Contracts of package asm's isLetter, registerOf and fault (layer 5): whether a byte is a letter; the register of that name; an error's value. No condition but the text's length. -/
import Derived.Test.YtneajiglkiffjaaGreatDoorAsmText
import Derived.Test.YtneajiglkiffjaaGreatDoorParseP
import Derived.Test.YtneajiglkiffjaaGreatDoorPrint
import Derived.Test.YtneajiglkiffjaaGreatDoorStrs
namespace Go.Proofs.YtneajiglkiffjaaGreatDoor
open Go.RowKit
set_option linter.unusedVariables false

/-- "asm". -/
def asmS : ByteArray := ⟨#[97, 115, 109]⟩
set_option maxHeartbeats 400000 in
theorem afault_any (n : Int) (t : TypeId) (x : Value) (w : World) : Calls Tryz.prog 15 #[.int .i64 n, .iface t x] w fun e w' =>
    e = .returned (.iface 69 (.pointer (some ⟨w.heap.size, 0, none⟩))) ∧ w' = w.alloc (.cells #[.string asmS, .int .i64 n, .iface t x] 73) := by
  go_enter Tryz.func15, Tryz.ntmps15
  go_wp2
  go_ret
  exact ⟨rfl, rfl⟩
set_option maxHeartbeats 400000 in
theorem isLetter_any (c : UInt8) (w : World) : Calls Tryz.prog 90 #[.int .u8 (c.toNat : Int)] w fun e w' => e = .returned (.bool (isLow c)) ∧ w = w' := by
  unfold isLow
  by_cases h1 : 97 ≤ c.toNat
  · by_cases h2 : c.toNat ≤ 122
    · have e1 : (97 : Int) ≤ (c.toNat : Int) := by omega
      have e2 : (c.toNat : Int) ≤ 122 := by omega
      rw [decide_eq_true h1, decide_eq_true h2]
      clear h1 h2
      go_enter Tryz.func90, Tryz.ntmps90
      go_wp2
      go_ret
      exact ⟨rfl, rfl⟩
    · have e1 : (97 : Int) ≤ (c.toNat : Int) := by omega
      have e2 : ¬ (c.toNat : Int) ≤ 122 := by omega
      rw [decide_eq_true h1, decide_eq_false h2]
      clear h1 h2
      go_enter Tryz.func90, Tryz.ntmps90
      go_wp2
      go_ret
      exact ⟨rfl, rfl⟩
  · have e1 : ¬ (97 : Int) ≤ (c.toNat : Int) := by omega
    rw [decide_eq_false h1, Bool.false_and]
    clear h1
    go_enter Tryz.func90, Tryz.ntmps90
    go_wp2
    go_ret
    exact ⟨rfl, rfl⟩
set_option maxHeartbeats 400000 in
theorem print_small (u : Nat) (hu : u < 100) (w : World) : Calls Tryz.prog 38 #[.int .u64 u] w fun e w' => e = .returned (.string (bytesA (Lib.decDigits u))) ∧ w = w' := by
  have C := Lib.hid (fun W => formatSmall u hu W)
  have c2 : Calls Tryz.prog 61 #[.int .u64 u, .int .i64 10] w fun e w' => e = .returned (.string (bytesA (Lib.decDigits u))) ∧ w = w' := by
    go_enter Tryz.func61, Tryz.ntmps61
    go_wp2_with (go_at_call 84; refine (C.out _).mono ?_; rintro e w' ⟨rfl, rfl⟩)
    go_ret
    exact ⟨rfl, rfl⟩
  have C2 := Lib.hid c2
  clear c2
  go_enter Tryz.func38, Tryz.ntmps38
  go_wp2_with (go_at_call 61; refine C2.out.mono ?_; rintro e w' ⟨rfl, rfl⟩)
  go_ret
  exact ⟨rfl, rfl⟩
theorem bytesA_inj {a b : List UInt8} (h : bytesA a = bytesA b) : a = b := by
  have := congrArg (fun x : ByteArray => x.data.toList) h
  simpa using this
theorem bytesA_ne (a b : List UInt8) : ((bytesA a).toList == (bytesA b).toList) = decide (a = b) := by
  rw [Lib.toList_data, Lib.toList_data]
  by_cases h : a = b
  · subst h; simp
  · simp [h]
/-- What Parse leaves, in plain words. -/
theorem parse_ok (l : List UInt8) (v : Nat) (h : readAll l = .ok v) (w : World) : Calls Tryz.prog 98 #[.string (bytesA l)] w fun e w' => e = .returned (.tuple #[.int .u64 v, .nilIface]) ∧ w = w' := by
  have c := parse_any (bytesA l) w
  rw [show (bytesA l).data.toList = l by simp, h] at c
  exact c
theorem parse_bad (l : List UInt8) (n : Nat) (h : readAll l = .bad n) (w : World) : Calls Tryz.prog 98 #[.string (bytesA l)] w fun e w' => ∃ o, e = .returned (.tuple #[.int .u64 0, .iface 69 (.pointer (some ⟨w.heap.size, 0, none⟩))]) ∧ w' = w.alloc o := by
  have c := parse_any (bytesA l) w
  rw [show (bytesA l).data.toList = l by simp, h] at c
  exact c.mono fun e w' ⟨h1, h2⟩ => ⟨_, h1, h2⟩
theorem cutPre (l : List UInt8) (c : UInt8) (w : World) : Calls Tryz.prog 109 #[.string (bytesA l), .string ⟨#[c]⟩] w fun e w' =>
    e = .returned (.tuple #[.string (bytesA (if [c].isPrefixOf l then l.drop 1 else l)), .bool ([c].isPrefixOf l)]) ∧ w = w' := by
  refine (Tryz.strings_CutPrefix (bytesA l) ⟨#[c]⟩ w).mono fun e w' ⟨h1, h2⟩ => ⟨?_, h2.symm⟩
  rw [h1]
  simp only [Lib.trimPrefix, Lib.hasPrefix]
  congr 1
theorem cutSuf (l : List UInt8) (c : UInt8) (w : World) (hl : l.length ≤ 9223372036854775807) : Calls Tryz.prog 54 #[.string (bytesA l), .string ⟨#[c]⟩] w fun e w' =>
    e = .returned (.tuple #[.string (bytesA (if [c].isSuffixOf l then l.dropLast else l)), .bool ([c].isSuffixOf l)]) ∧ w = w' := by
  refine (Tryz.strings_CutSuffix (bytesA l) ⟨#[c]⟩ w (by simpa [ByteArray.size] using hl)).mono fun e w' ⟨h1, h2⟩ => ⟨?_, h2.symm⟩
  rw [h1]
  simp only [Lib.trimSuffix, Lib.hasSuffix, List.dropLast_eq_take]
  congr 1
theorem bytesA_size (l : List UInt8) : (bytesA l).size = l.length := by simp [ByteArray.size]
theorem regP_no (l : List UInt8) (h : [114].isPrefixOf l = false) : regP l = none := by
  cases l with
  | nil => rfl
  | cons c d =>
    rw [regP, if_neg]
    intro e
    subst e
    simp at h
theorem regP_cons (d : List UInt8) : regP (114 :: d) = match readAll d with | .ok n => if n < 32 ∧ Lib.decDigits n = d then some n else none | .bad _ => none := by rw [regP, if_pos rfl]; cases readAll d <;> rfl
/-- What registerOf says. -/
def RegPost (r : Option Nat) (w : World) (e : Ending) (w' : World) : Prop := e = .returned (.tuple #[.int .i64 ((r.getD 0 : Nat) : Int), .bool r.isSome]) ∧ Below w.heap.size w w'
set_option maxHeartbeats 1000000 in
theorem regOf_any (l : List UInt8) (w : World) : Calls Tryz.prog 91 #[.string (bytesA l)] w (RegPost (regP l) w) := by
  by_cases hp : [114].isPrefixOf l = true
  · obtain ⟨d, rfl⟩ : ∃ d, l = 114 :: d := by
      cases l with
      | nil => simp at hp
      | cons c d =>
        simp at hp
        exact ⟨d, by rw [hp]⟩
    have CP := Lib.hid (show ∀ W, Calls Tryz.prog 109 #[.string (bytesA (114 :: d)), .string ⟨#[114]⟩] W fun e w' => e = .returned (.tuple #[.string (bytesA d), .bool true]) ∧ W = w' from fun W => by
      have := cutPre (114 :: d) 114 W
      rw [if_pos hp, hp] at this
      exact this)
    clear hp
    rw [regP_cons]
    obtain ⟨s, hs⟩ : ∃ s, s = bytesA (114 :: d) := ⟨_, rfl⟩
    rw [← hs] at CP ⊢
    clear hs
    cases hr : readAll d with
    | bad n =>
      have PB := Lib.hid (fun W => parse_bad d n hr W)
      have FIN := Lib.hid (fun o => show RegPost none w (.returned (.tuple #[.int .i64 0, .bool false])) (w.alloc o) from ⟨rfl, (Below.refl _ _).alloc (Nat.le_refl _) _⟩)
      clear hr
      go_enter Tryz.func91, Tryz.ntmps91
      go_wp2_with fail
      go_at_call 109
      refine (CP.out _).mono ?_
      rintro e w1 ⟨rfl, rfl⟩
      go_wp2_with fail
      go_at_call 98
      refine (PB.out _).mono ?_
      rintro e w1 ⟨o, rfl, rfl⟩
      go_wp2_with fail
      go_ret2
      exact FIN.out _
    | ok v =>
      have PO := Lib.hid (fun W => parse_ok d v hr W)
      clear hr
      simp only []
      obtain ⟨R, hR⟩ : ∃ R, R = (if v < 32 ∧ Lib.decDigits v = d then some v else none) := ⟨_, rfl⟩
      rw [← hR]
      have HR := Lib.hid hR
      clear hR
      by_cases h32 : v < 32
      · have i1 : (v : Int) < 32 := by omega
        have i2 : ¬ (32 : Int) ≤ (v : Int) := by omega
        have PS := Lib.hid (fun W => print_small v (by omega) W)
        have HB := Lib.hid (bytesA_ne (Lib.decDigits v) d)
        by_cases hd : Lib.decDigits v = d
        · have FIN := Lib.hid (show RegPost R w (.returned (.tuple #[.int .i64 (v : Int), .bool true])) w from by rw [HR.out, if_pos ⟨h32, hd⟩]; exact ⟨rfl, Below.refl _ _⟩)
          have hb : ((bytesA (Lib.decDigits v)).toList == (bytesA d).toList) = true := by rw [HB.out, hd]; simp
          obtain ⟨x, hx⟩ : ∃ x, x = bytesA (Lib.decDigits v) := ⟨_, rfl⟩
          rw [← hx] at PS hb
          obtain ⟨y, hy⟩ : ∃ y, y = bytesA d := ⟨_, rfl⟩
          rw [← hy] at CP PO hb
          clear hx hy HB hd
          go_enter Tryz.func91, Tryz.ntmps91
          go_wp2_with fail
          go_at_call 109
          refine (CP.out _).mono ?_
          rintro e w1 ⟨rfl, rfl⟩
          go_wp2_with fail
          go_at_call 98
          refine (PO.out _).mono ?_
          rintro e w1 ⟨rfl, rfl⟩
          go_wp2_with fail
          go_at_call 38
          refine (PS.out _).mono ?_
          rintro e w1 ⟨rfl, rfl⟩
          go_wp2_with fail
          go_ret2
          exact FIN.out
        · have FIN := Lib.hid (show RegPost R w (.returned (.tuple #[.int .i64 0, .bool false])) w from by rw [HR.out, if_neg (fun h => hd h.2)]; exact ⟨rfl, Below.refl _ _⟩)
          have hb : ((bytesA (Lib.decDigits v)).toList == (bytesA d).toList) = false := by rw [HB.out]; simpa using hd
          obtain ⟨x, hx⟩ : ∃ x, x = bytesA (Lib.decDigits v) := ⟨_, rfl⟩
          rw [← hx] at PS hb
          obtain ⟨y, hy⟩ : ∃ y, y = bytesA d := ⟨_, rfl⟩
          rw [← hy] at CP PO hb
          clear hx hy HB hd
          go_enter Tryz.func91, Tryz.ntmps91
          go_wp2_with fail
          go_at_call 109
          refine (CP.out _).mono ?_
          rintro e w1 ⟨rfl, rfl⟩
          go_wp2_with fail
          go_at_call 98
          refine (PO.out _).mono ?_
          rintro e w1 ⟨rfl, rfl⟩
          go_wp2_with fail
          go_at_call 38
          refine (PS.out _).mono ?_
          rintro e w1 ⟨rfl, rfl⟩
          go_wp2_with fail
          go_ret2
          exact FIN.out
      · have i1 : (32 : Int) ≤ (v : Int) := by omega
        have FIN := Lib.hid (show RegPost R w (.returned (.tuple #[.int .i64 0, .bool false])) w from by rw [HR.out, if_neg (fun h => h32 h.1)]; exact ⟨rfl, Below.refl _ _⟩)
        clear h32
        go_enter Tryz.func91, Tryz.ntmps91
        go_wp2_with fail
        go_at_call 109
        refine (CP.out _).mono ?_
        rintro e w1 ⟨rfl, rfl⟩
        go_wp2_with fail
        go_at_call 98
        refine (PO.out _).mono ?_
        rintro e w1 ⟨rfl, rfl⟩
        go_wp2_with fail
        go_ret2
        exact FIN.out
  · have hpf : [114].isPrefixOf l = false := Bool.eq_false_iff.2 hp
    have CP := Lib.hid (show ∀ W, Calls Tryz.prog 109 #[.string (bytesA l), .string ⟨#[114]⟩] W fun e w' => e = .returned (.tuple #[.string (bytesA l), .bool false]) ∧ W = w' from fun W => by
      have := cutPre l 114 W
      rw [if_neg hp, hpf] at this
      exact this)
    rw [regP_no l hpf]
    clear hp hpf
    have FIN := Lib.hid (fun w' (hb : Below w.heap.size w w') => show RegPost none w (.returned (.tuple #[.int .i64 0, .bool false])) w' from ⟨rfl, hb⟩)
    have PA := Lib.hid (show ∀ W, Calls Tryz.prog 98 #[.string (bytesA l)] W fun e w' => ∃ x y, e = .returned (.tuple #[.int .u64 x, y]) ∧ Below W.heap.size W w' from fun W => by
      cases hr : readAll l with
      | ok v => exact (parse_ok l v hr W).mono fun e w' ⟨h1, h2⟩ => ⟨_, _, h1, by rw [← h2]; exact Below.refl _ _⟩
      | bad n => exact (parse_bad l n hr W).mono fun e w' ⟨o, h1, h2⟩ => ⟨_, _, h1, by rw [h2]; exact (Below.refl _ _).alloc (Nat.le_refl _) _⟩)
    go_enter Tryz.func91, Tryz.ntmps91
    go_wp2_with fail
    go_at_call 109
    refine (CP.out _).mono ?_
    rintro e w1 ⟨rfl, rfl⟩
    go_wp2_with fail
    go_at_call 98
    refine (PA.out _).mono ?_
    rintro e w1 ⟨x, y, rfl, hb⟩
    have HB := Lib.hid hb
    clear hb
    go_wp2_with fail
    go_ret2
    exact FIN.out _ HB.out
end Go.Proofs.YtneajiglkiffjaaGreatDoor
