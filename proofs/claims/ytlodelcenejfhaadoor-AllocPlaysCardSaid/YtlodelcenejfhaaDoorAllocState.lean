/- The program's blocks of cells (layer 3) over its memory: how both lie, and the contract of find. The conditions: the blocks lie one behind the other between the two places, the second below 2^31. -/
import Derived.Test.YtlodelcenejfhaaDoorAllocFind
import Derived.Test.YtlodelcenejfhaaDoorAllocInsert3
import Derived.Test.YtlodelcenejfhaaDoorMemUnmap
import Derived.Test.YtlodelcenejfhaaDoorGood
import Derived.Test.YtlodelcenejfhaaDoorSameAt
namespace Go.Proofs.YtlodelcenejfhaaDoor
open Go.RowKit Go.Shelf
set_option linter.unusedVariables false

set_option maxHeartbeats 400000 in
theorem find_any {w : World} {a mb B : Nat} {frm e : Int} {v : Value} {L : List Blk} (h : AllocAt w a mb B frm e v L) (hC : Chain e frm L) (hs : L.length < 2147483648) (x : Int) :
    Calls Tryd.prog 38 #[.pointer (some ⟨a, 0, none⟩), .int .i64 x] w (FindPost L x w) := by
  have c3 := h.c3
  have up : ∀ i j, i < j → j < L.length → (L.getD i blk0).p < (L.getD j blk0).p := fun i j hij hj => by
    have h1 := (hC.up j hj).2.2.2 i hij
    have h2 := (hC.up i (by omega)).2.1
    omega
  rcases h.cells with ⟨rfl, rfl⟩ | ⟨g, cap, rfl, hb, hg, hn, hcs⟩
  · have S := Lib.hid (search_nil x w)
    clear h hC hs up
    go_enter Tryd.func38, Tryd.ntmps38
    go_wp2_with fail
    go_at_call 56
    refine S.out.mono ?_
    rintro e w' ⟨i, hp, rfl, hbl⟩
    go_wp2
    go_ret2
    exact ⟨i, hp, rfl, hbl⟩
  · have S := Lib.hid (search_any x L hs up g cap w hg hcs)
    clear h hC hs up hcs
    go_enter Tryd.func38, Tryd.ntmps38
    go_wp2_with fail
    go_at_call 56
    refine S.out.mono ?_
    rintro e w' ⟨i, hp, rfl, hbl⟩
    obtain ⟨fb, hfb⟩ : ∃ fb, fb = decide (i < L.length ∧ (L.getD i blk0).p = x) := ⟨_, rfl⟩
    rw [← hfb]
    have HF := Lib.hid hfb
    have HP := Lib.hid hp
    clear hfb hp
    go_wp2
    go_ret2
    exact ⟨i, HP.out, by rw [← HF.out]; rfl, hbl⟩

/-- The blocks over the memory. -/
structure Alc (w : World) (a mb mc B : Nat) (frm e : Int) (v : Value) (L : List Blk) (m : Cells) (t : Int) : Prop where
  al : AllocAt w a mb B frm e v L
  me : MemAt w mb mc m t
  g : Good m
  ha : a < B
  hmb : mb < B
  hmc : mc < B
  n1 : a ≠ mb
  n2 : a ≠ mc
  hB : B ≤ w.heap.size
  ch : Chain e frm L
  h0 : 0 ≤ frm
  he : e < 2147483648
section
variable {w w' : World} {a mb mc B : Nat} {frm e : Int} {v : Value} {L : List Blk} {m : Cells} {t : Int}
theorem Alc.small (h : Alc w a mb mc B frm e v L m t) : L.length < 2147483648 := by have := h.ch.le; have := h.h0; have := h.he; omega
theorem Alc.ei (h : Alc w a mb mc B frm e v L m t) : e ≤ 9223372036854775807 := by have := h.he; omega
theorem Alc.own (h : Alc w a mb mc B frm e v L m t) : ∀ k, v.ownBlock = some k → B ≤ k ∧ k < w.heap.size := h.al.row.lt
theorem Alc.kept {F : List Nat} (h : Alc w a mb mc B frm e v L m t) (ho : Only F w w') (h1 : a ∉ F) (h2 : mb ∉ F) (h3 : mc ∉ F) (h4 : ∀ k, v.ownBlock = some k → k ∉ F) : Alc w' a mb mc B frm e v L m t :=
  ⟨h.al.only ho h1 h4, h.me.only ho h2 h3, h.g, h.ha, h.hmb, h.hmc, h.n1, h.n2, Nat.le_trans h.hB ho.size, h.ch, h.h0, h.he⟩
theorem Alc.below (h : Alc w a mb mc B frm e v L m t) (hb : Below w.heap.size w w') : Alc w' a mb mc B frm e v L m t := h.kept (F := []) (Only.of_below hb) (by simp) (by simp) (by simp) (fun _ _ => by simp)
theorem Alc.used (h : Alc w a mb mc B frm e v L m t) : Calls Tryd.prog 29 #[.pointer (some ⟨a, 0, none⟩)] w fun en W' => en = .returned (.int .i64 (usedOf L)) ∧ Below w.heap.size w W' := used_any a mb B frm e v L h.h0 h.ei h.ch h.small w h.al
theorem Alc.widest (h : Alc w a mb mc B frm e v L m t) : Calls Tryd.prog 30 #[.pointer (some ⟨a, 0, none⟩)] w fun en W' => en = .returned (.int .i64 (longest (gaps e frm L))) ∧ Below w.heap.size w W' := widest_any a mb B frm e v L h.h0 h.ei h.ch h.small w h.al
theorem Alc.room (h : Alc w a mb mc B frm e v L m t) (c : Int) : Calls Tryd.prog 44 #[.pointer (some ⟨a, 0, none⟩), .int .i64 c] w fun en W' => en = .returned (roomVal (firstGap c (gaps e frm L))) ∧ Below w.heap.size w W' := room_any a mb B frm e v L h.h0 h.ei h.ch h.small c w h.al
theorem Alc.find (h : Alc w a mb mc B frm e v L m t) (x : Int) : Calls Tryd.prog 38 #[.pointer (some ⟨a, 0, none⟩), .int .i64 x] w (FindPost L x w) := find_any h.al h.ch h.small x
end
end Go.Proofs.YtlodelcenejfhaaDoor
