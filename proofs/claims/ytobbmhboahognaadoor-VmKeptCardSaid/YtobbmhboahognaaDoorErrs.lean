/- Contracts of errors.Is and errors.As at the program's own errors: a chain of places (*api.At) behind which a kind (api.Err) lies. errors.Is at a kind: whether it is that kind, the world as it was. errors.As at a **api.At: the outermost place, or false. -/
import Derived.Test.YtobbmhboahognaaDoorProg
import Derived.WalkKit
import Derived.WalkSpells
import Derived.WalkLawsBesides
import Derived.LaidEql
import Derived.Lib.IfaceEq
import Derived.Lib.Hide
import Derived.Stop.Asserts
import Derived.RowKitTokens
namespace Go.Proofs.YtobbmhboahognaaDoor
open Go.RowKit Go.Extern.Stop Go.Stop Go.Extern

/-- AN ERROR IN THE WORLD W: the value; its places, the outermost first; the kind behind them. -/
inductive ErrAt (W : World) : Value → List (ByteArray × Int) → Int → Prop
  | kind (k : Int) : ErrAt W (.iface 55 (.int .i64 k)) [] k
  | place (b : Nat) (layer : ByteArray) (n : Int) (inner : Value) (l : List (ByteArray × Int)) (k : Int) :
      W.cell? ⟨b, 0, none⟩ = some (.string layer) → W.cell? ⟨b, 1, none⟩ = some (.int .i64 n) → W.cell? ⟨b, 2, none⟩ = some inner → ErrAt W inner l k →
      ErrAt W (.iface 108 (.pointer (some ⟨b, 0, none⟩))) ((layer, n) :: l) k
theorem ErrAt.unique {W : World} {E : Value} {l l' : List (ByteArray × Int)} {k k' : Int} (h : ErrAt W E l k) (h' : ErrAt W E l' k') : l = l' ∧ k = k' := by
  induction h generalizing l' with
  | kind k => cases h'; exact ⟨rfl, rfl⟩
  | place b layer n inner l k h0 h1 h2 h3 ih =>
    cases h' with
    | place _ layer' n' inner' l2 _ g0 g1 g2 g3 =>
      rw [h0] at g0; rw [h1] at g1; rw [h2] at g2
      cases g0; cases g1; cases g2
      obtain ⟨e1, e2⟩ := ih g3
      exact ⟨by rw [e1], e2⟩
theorem ErrAt.iface {W : World} {E : Value} {l : List (ByteArray × Int)} {k : Int} (h : ErrAt W E l k) : ∃ t v, E = .iface t v := by
  cases h with
  | kind k => exact ⟨_, _, rfl⟩
  | place => exact ⟨_, _, rfl⟩
open Classical in
/-- How many places are left: the loops' measure. -/
noncomputable def errLen (W : World) (E : Value) : Nat := if h : ∃ l k, ErrAt W E l k then h.choose.length + 1 else 0
theorem errLen_eq {W : World} {E : Value} {l : List (ByteArray × Int)} {k : Int} (h : ErrAt W E l k) : errLen W E = l.length + 1 := by
  have hx : ∃ l k, ErrAt W E l k := ⟨l, k, h⟩
  unfold errLen
  rw [dif_pos hx]
  obtain ⟨k', hk'⟩ := hx.choose_spec
  rw [(ErrAt.unique hk' h).1]
/-- An error stays where the cells stay. -/
theorem ErrAt.mono {W W' : World} (hc : ∀ p v, W.cell? p = some v → W'.cell? p = some v) {E : Value} {l : List (ByteArray × Int)} {k : Int} (h : ErrAt W E l k) : ErrAt W' E l k := by
  induction h with
  | kind k => exact .kind k
  | place b layer n inner l k h0 h1 h2 _ ih => exact .place b layer n inner l k (hc _ _ h0) (hc _ _ h1) (hc _ _ h2) ih

/-! ### Closed facts on the method sets and the types -/
theorem Tryd.errIsNoK (v : Value) (xT : TypeId) (w : World) : (Instr.typeAssert (.iface 55 v) xT 199 true).run Tryd.prog w = .ok (.tuple #[.nilIface, .bool false]) w := run_typeAssert_lacksB Tryd.underlying199 (by kernel_rfl) (by kernel_rfl) v xT w
theorem Tryd.errUnwrapNoK (v : Value) (xT : TypeId) (w : World) : (Instr.typeAssert (.iface 55 v) xT 189 true).run Tryd.prog w = .ok (.tuple #[.nilIface, .bool false]) w := run_typeAssert_lacksB Tryd.underlying189 (by kernel_rfl) (by kernel_rfl) v xT w
theorem Tryd.errUnwrapsNoK (v : Value) (xT : TypeId) (w : World) : (Instr.typeAssert (.iface 55 v) xT 191 true).run Tryd.prog w = .ok (.tuple #[.nilIface, .bool false]) w := run_typeAssert_lacksB Tryd.underlying191 (by kernel_rfl) (by kernel_rfl) v xT w
theorem Tryd.errAsNoK (v : Value) (xT : TypeId) (w : World) : (Instr.typeAssert (.iface 55 v) xT 186 true).run Tryd.prog w = .ok (.tuple #[.nilIface, .bool false]) w := run_typeAssert_lacksB Tryd.underlying186 (by kernel_rfl) (by kernel_rfl) v xT w
theorem Tryd.errIsNoP (v : Value) (xT : TypeId) (w : World) : (Instr.typeAssert (.iface 108 v) xT 199 true).run Tryd.prog w = .ok (.tuple #[.nilIface, .bool false]) w := run_typeAssert_lacksB Tryd.underlying199 (by kernel_rfl) (by kernel_rfl) v xT w
theorem Tryd.errUnwrapP (v : Value) (xT : TypeId) (w : World) : (Instr.typeAssert (.iface 108 v) xT 189 true).run Tryd.prog w = .ok (.tuple #[.iface 108 v, .bool true]) w := run_typeAssert_hasB Tryd.underlying189 (by kernel_rfl) v xT w
theorem Tryd.errMethodUnwrap (v : Value) (w : World) : (Go.method 332 108 v "Unwrap").run Tryd.prog w = .ok (132, v) w := by kernel_rfl
theorem Tryd.errTypeOfK (v : Value) (w : World) : (ReflectliteType.typeOf #[.iface 55 v]).run Tryd.prog w = .ok (.iface 182 (.agg #[.pointer (some ⟨1, 55, none⟩)])) w := by kernel_rfl
/-- The model's entry for (rtype).Comparable. -/
def Tryd.errCmpEntry : Array Value → Sem Value := ReflectliteType.method fun t => do Rtype.noPackHeld "Comparable" t; pure (.bool (← typeInfo t).comparable)
theorem Tryd.errComparableK (w : World) : (Tryd.errCmpEntry #[.agg #[.pointer (some ⟨1, 55, none⟩)]]).run Tryd.prog w = .ok (.bool true) w := by kernel_rfl
theorem Tryd.errMethodComparable (v : Value) (w : World) : (Go.method 332 182 v "Comparable").run Tryd.prog w = .ok (139, v) w := by kernel_rfl
theorem Tryd.errInfoK : (Tryd.prog.info? 55).map (·.comparable) = some true := by kernel_rfl

set_option maxHeartbeats 1000000 in
set_option maxRecDepth 100000 in
theorem is_loop {W : World} (E : Value) (l : List (ByteArray × Int)) (k t : Int) (hE : ErrAt W E l k) :
    Calls Tryd.prog 94 #[E, .iface 55 (.int .i64 t), .bool true] W fun e w' => e = .returned (.bool (k == t)) ∧ w' = W := by
  obtain ⟨r, hr⟩ : ∃ r, r = (k == t) := ⟨_, rfl⟩
  rw [← hr]
  have HR := Lib.hid hr
  clear hr
  have nK := Tryd.errIsNoK
  have uK := Tryd.errUnwrapNoK
  have vK := Tryd.errUnwrapsNoK
  have nP := Tryd.errIsNoP
  have uP := Tryd.errUnwrapP
  have mU := Tryd.errMethodUnwrap
  go_enter Tryd.func94, Tryd.ntmps94
  go_wp2
  go_loopw [0] (fun E' wl => wl = W ∧ ∃ l', ErrAt W E' l' k) (fun E' _ => errLen W E')
  case atStart => exact ⟨rfl, l, hE⟩
  case round =>
    obtain ⟨rfl, l', hc'⟩ := hrel
    cases hc' with
    | kind k =>
      have heq := Lib.run_eql_iface_int (P := Tryd.prog) wr (k := .i64) k t Tryd.underlying37 Tryd.errInfoK Tryd.underlying55
      rw [← HR.out] at heq
      cases r
      · go_wp2
        go_ret
        exact ⟨rfl, rfl⟩
      · go_wp2
        go_ret
        exact ⟨rfl, rfl⟩
    | place b layer n inner l1 k h0 h1 h2 h3 =>
      have hty := run_eql_iface_types (P := Tryd.prog) 108 55 (.pointer (some ⟨b, 0, none⟩)) (.int .i64 t) Tryd.underlying37 (by decide) wr
      have hlen := errLen_eq h3
      have hlen0 := errLen_eq (ErrAt.place b layer n inner l1 k h0 h1 h2 h3)
      obtain ⟨u1, v1, rfl⟩ := h3.iface
      have HC := Lib.hid h3
      have HL := Lib.hid hlen
      have HL0 := Lib.hid hlen0
      clear h3 hlen hlen0
      go_wp2
      go_roundw
      case rel => exact ⟨trivial, l1, HC.out⟩
      case measure =>
        show errLen wr (.iface u1 v1) < _
        rw [HL.out, HL0.out]; simp

set_option maxHeartbeats 1000000 in
set_option maxRecDepth 100000 in
/-- errors.Is at a kind. -/
theorem is_err {W : World} (E : Value) (l : List (ByteArray × Int)) (k t : Int) (hE : ErrAt W E l k) :
    Calls Tryd.prog 82 #[E, .iface 55 (.int .i64 t)] W fun e w' => e = .returned (.bool (k == t)) ∧ w' = W := by
  have hT := @run_callFunc_extern Tryd.prog 93 _ ReflectliteType.typeOf Tryd.func93 (by kernel_rfl) (by kernel_rfl) (by kernel_rfl) (by kernel_rfl)
  have hC := @run_callFunc_extern Tryd.prog 139 _ Tryd.errCmpEntry Tryd.func139 (by kernel_rfl) (by kernel_rfl) (by kernel_rfl) (by kernel_rfl)
  have tT := Tryd.errTypeOfK
  have cT := Tryd.errComparableK
  have mC := Tryd.errMethodComparable
  have IL := Lib.hid (is_loop E l k t hE)
  obtain ⟨u1, v1, rfl⟩ := hE.iface
  have HE := Lib.hid hE
  clear hE
  go_enter Tryd.func82, Tryd.ntmps82
  go_wp2_with (go_at_call 94; refine IL.out.mono ?_; rintro e w' ⟨rfl, rfl⟩)
  go_ret
  exact ⟨rfl, rfl⟩
end Go.Proofs.YtobbmhboahognaaDoor
