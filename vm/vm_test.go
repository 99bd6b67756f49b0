package vm_test

import (
	"errors"
	"math"
	"math/big"
	"math/rand"
	"reflect"
	"slices"
	"testing"

	"distaff/api"
	"distaff/code"
	"distaff/mem"
	"distaff/vm"
)

const top = math.MaxUint64

// edges are numbers at which arithmetic turns.
var edges = []uint64{0, 1, 2, 5, 31, 32, 33, 63, 64, 65, 127, 128, 1<<31 - 1, 1 << 31, 1<<32 - 1, 1 << 32, 1<<63 - 1, 1 << 63, 1<<63 + 1, top - 1, top}

// registers are numbers in a register's field: -1, those that are registers, and those beside them.
var registers = []int{math.MinInt, -32, -2, -1, 0, 1, 17, api.Regs - 1, api.Regs, api.Regs + 1, 1<<32 + 3, math.MaxInt}

// computing are the operations that access nothing and do not jump, accessing those that access a cell, jumping the others that are plain.
var (
	computing = []int{api.Set, api.Mov, api.Add, api.Sub, api.And, api.Or, api.Xor, api.Shl, api.Shr, api.Eq, api.Lt}
	accessing = []int{api.Ld, api.St, api.Swp, api.Fad, api.Cas}
	jumping   = []int{api.Jmp, api.Jz, api.Jnz, api.Jsr, api.Ret}
)

// oneCell is a memory of one wide cell, at any address, which tells its accesses and fails by its error.
type oneCell struct {
	holds uint64
	fails error
	told  []access
}

type access struct {
	kind       string
	at, old, v uint64
}

func (m *oneCell) access(a access, v uint64) (uint64, error) {
	m.told = append(m.told, a)
	if m.fails != nil {
		return 77, m.fails
	}
	was := m.holds
	m.holds = v
	return was, nil
}

func (m *oneCell) Load(at uint64) (uint64, error) {
	return m.access(access{"load", at, 0, 0}, m.holds)
}

func (m *oneCell) Store(at, v uint64) error {
	_, err := m.access(access{"store", at, 0, v}, v)
	return err
}

func (m *oneCell) Swap(at, v uint64) (uint64, error) {
	return m.access(access{"swap", at, 0, v}, v)
}

func (m *oneCell) Add(at, v uint64) (uint64, error) {
	return m.access(access{"add", at, 0, v}, m.holds+v)
}

func (m *oneCell) Cas(at, old, v uint64) (uint64, error) {
	a := access{"cas", at, old, v}
	if m.holds != old {
		v = m.holds
	}
	return m.access(a, v)
}

// rets is code of n instructions, all of them ret, but x at i.
func rets(n, i int, x api.Ins) []api.Ins {
	l := make([]api.Ins, n)
	for i := range l {
		l[i] = api.Ins{Op: api.Ret}
	}
	l[i] = x
	return l
}

// frame is one at pc whose registers are all different.
func frame(pc int, back ...int) *vm.Frame {
	f := vm.Frame{PC: pc, Back: back}
	for i := range f.R {
		f.R[i] = uint64(1000 + i)
	}
	return &f
}

// copyOf is a frame that shares nothing with f.
func copyOf(f *vm.Frame) *vm.Frame {
	g := *f
	g.Back = slices.Clone(f.Back)
	return &g
}

func same(f, g *vm.Frame) bool {
	return f.PC == g.PC && f.R == g.R && slices.Equal(f.Back, g.Back)
}

// stepped tests that a step of f in l goes like that, without an error, and makes f into want.
func stepped(t *testing.T, f *vm.Frame, l []api.Ins, m vm.Cells, how int, want *vm.Frame) {
	t.Helper()
	x := l[f.PC]
	got, err := vm.Step(f, l, m)
	if got != how || err != nil {
		t.Errorf("%+v: %d %#v, not %d", x, got, err, how)
	}
	if !same(f, want) {
		t.Errorf("%+v: %+v, not %+v", x, *f, *want)
	}
}

// failed tests that err has the form of R2, with that place, and wraps that error.
func failed(t *testing.T, err error, n int, within error) {
	t.Helper()
	at, is := err.(*api.At)
	if !is {
		t.Errorf("the error is %v, not one at %d", err, n)
		return
	}
	if at.Layer != "vm" || at.N != n || at.Err != within {
		t.Errorf("the error is %s %d %v, not %d %v", at.Layer, at.N, at.Err, n, within)
	}
}

// model is what A becomes, by whole numbers.
func model(op int, b, c uint64) uint64 {
	x, y, z := new(big.Int).SetUint64(b), new(big.Int).SetUint64(c), new(big.Int)
	shift := uint(new(big.Int).Mod(y, big.NewInt(64)).Uint64())
	switch op {
	case api.Mov:
		z.Set(x)
	case api.Add:
		z.Add(x, y)
	case api.Sub:
		z.Sub(x, y)
	case api.And:
		z.And(x, y)
	case api.Or:
		z.Or(x, y)
	case api.Xor:
		z.Xor(x, y)
	case api.Shl:
		z.Lsh(x, shift)
	case api.Shr:
		z.Rsh(x, shift)
	case api.Eq:
		if x.Cmp(y) == 0 {
			z.SetInt64(1)
		}
	case api.Lt:
		if x.Cmp(y) < 0 {
			z.SetInt64(1)
		}
	}
	return z.Mod(z, new(big.Int).Lsh(big.NewInt(1), 64)).Uint64()
}

// P6.1

func TestValue(t *testing.T) {
	f := frame(3, 1, 2)
	f.R[17] = top
	before := copyOf(f)
	for op := -1; op <= api.Last+1; op++ {
		for _, c := range registers {
			for _, v := range edges {
				want := uint64(0)
				if c == -1 {
					want = v
				} else if c >= 0 && c < 32 {
					want = f.R[c]
				}
				x := api.Ins{Op: op, A: 4, B: 5, C: c, V: v, M: 6, When: 1}
				if got := vm.Value(f, x); got != want {
					t.Errorf("%+v: %d, not %d", x, got, want)
				}
			}
		}
	}
	if !same(f, before) {
		t.Errorf("the frame became %+v", *f)
	}
}

func TestAddress(t *testing.T) {
	f := frame(3, 1, 2)
	f.R[17], f.R[31] = top, 1<<63
	before := copyOf(f)
	for op := -1; op <= api.Last+1; op++ {
		for _, b := range registers {
			for _, v := range edges {
				want := v
				if b >= 0 && b < 32 {
					want = f.R[b] + v
				}
				x := api.Ins{Op: op, A: 4, B: b, C: 5, V: v, M: 6, When: 1}
				if got := vm.Address(f, x); got != want {
					t.Errorf("%+v: %d, not %d", x, got, want)
				}
			}
		}
	}
	if !same(f, before) {
		t.Errorf("the frame became %+v", *f)
	}
}

func TestOperandsByHand(t *testing.T) {
	f := frame(0)
	f.R[0], f.R[1], f.R[2] = 8, top, 5
	for _, r := range []struct {
		x       api.Ins
		v, addr uint64
	}{
		{api.Ins{}, 8, 8},
		{api.Ins{B: -1, C: -1, V: 12}, 12, 12},
		{api.Ins{B: 2, C: 1, V: 12}, top, 17},
		{api.Ins{B: 1, C: 2, V: 3}, 5, 2},
		{api.Ins{B: 1, C: 2, V: 1}, 5, 0},
		{api.Ins{B: 32, C: 32, V: 3}, 0, 3},
		{api.Ins{B: -2, C: -2, V: 3}, 0, 3},
	} {
		if v, addr := vm.Value(f, r.x), vm.Address(f, r.x); v != r.v || addr != r.addr {
			t.Errorf("%+v: %d and %d, not %d and %d", r.x, v, addr, r.v, r.addr)
		}
	}
}

// TestOperandsOfNoFrame has no frame, thus no registers.
func TestOperandsOfNoFrame(t *testing.T) {
	for _, n := range registers {
		want := uint64(0)
		if n == -1 {
			want = 9
		}
		if v := vm.Value(nil, api.Ins{C: n, V: 9}); v != want {
			t.Errorf("register %d: %d, not %d", n, v, want)
		}
		if v := vm.Address(nil, api.Ins{B: n, V: 9}); v != 9 {
			t.Errorf("register %d: %d, not 9", n, v)
		}
	}
}

// P6.2: what is computed

func TestComputedByHand(t *testing.T) {
	for _, r := range []struct {
		op         int
		b, c, want uint64
	}{
		{api.Add, 2, 3, 5},
		{api.Add, top, 1, 0},
		{api.Add, 5, top, 4},
		{api.Add, 1 << 63, 1 << 63, 0},
		{api.Sub, 5, 3, 2},
		{api.Sub, 3, 5, top - 1},
		{api.Sub, 0, top, 1},
		{api.Sub, 0, 1 << 63, 1 << 63},
		{api.And, 12, 10, 8},
		{api.Or, 12, 10, 14},
		{api.Xor, 12, 10, 6},
		{api.Shl, 3, 4, 48},
		{api.Shl, 3, 63, 1 << 63},
		{api.Shl, 3, 64, 3},
		{api.Shl, 3, top, 1 << 63},
		{api.Shl, 3, 1 << 32, 3},
		{api.Shr, 48, 4, 3},
		{api.Shr, top, 63, 1},
		{api.Shr, 48, 68, 3},
		{api.Shr, 48, 1 << 63, 48},
		{api.Eq, 7, 7, 1},
		{api.Eq, 7, 8, 0},
		{api.Eq, top, top, 1},
		{api.Lt, 7, 8, 1},
		{api.Lt, 8, 7, 0},
		{api.Lt, 7, 7, 0},
		{api.Lt, 1, top, 1},
		{api.Lt, top, 1, 0},
	} {
		f := frame(1)
		f.R[2], f.R[3] = r.b, r.c
		want := copyOf(f)
		want.PC, want.R[1] = 2, r.want
		stepped(t, copyOf(f), rets(3, 1, api.Ins{Op: r.op, A: 1, B: 2, C: 3}), nil, vm.Went, want)
		stepped(t, f, rets(3, 1, api.Ins{Op: r.op, A: 1, B: 2, C: -1, V: r.c}), nil, vm.Went, want)
	}
}

// TestComputedAtEdges goes by whole numbers, with a memory that nothing accesses.
func TestComputedAtEdges(t *testing.T) {
	m := &oneCell{holds: 4}
	random := rand.New(rand.NewSource(6))
	numbers := slices.Clone(edges)
	for range 40 {
		numbers = append(numbers, random.Uint64()>>random.Intn(64))
	}
	for _, op := range computing[1:] {
		for _, b := range numbers {
			for _, c := range numbers {
				f := frame(0, 5)
				f.R[30], f.R[31] = b, c
				want := copyOf(f)
				want.PC, want.R[0] = 1, model(op, b, c)
				if op == api.Mov {
					stepped(t, f, rets(1, 0, api.Ins{Op: op, B: 30}), m, vm.Went, want)
					continue
				}
				stepped(t, copyOf(f), rets(1, 0, api.Ins{Op: op, B: 30, C: 31}), m, vm.Went, want)
				stepped(t, f, rets(1, 0, api.Ins{Op: op, B: 30, C: -1, V: c}), m, vm.Went, want)
			}
		}
	}
	if len(m.told) > 0 || m.holds != 4 {
		t.Errorf("accesses: %v", m.told)
	}
}

// TestOneRegisterInAllPlaces reads the operands ahead of the writing.
func TestOneRegisterInAllPlaces(t *testing.T) {
	for _, r := range []struct {
		op   int
		want uint64
	}{
		{api.Mov, 6}, {api.Add, 12}, {api.Sub, 0}, {api.And, 6}, {api.Or, 6}, {api.Xor, 0}, {api.Shl, 384}, {api.Shr, 0}, {api.Eq, 1}, {api.Lt, 0},
	} {
		f := frame(0)
		f.R[9] = 6
		want := copyOf(f)
		want.PC, want.R[9] = 1, r.want
		x := api.Ins{Op: r.op, A: 9, B: 9, C: 9}
		if r.op == api.Mov {
			x.C = 0
		}
		stepped(t, f, rets(2, 0, x), nil, vm.Went, want)
	}
}

func TestSet(t *testing.T) {
	for _, v := range edges {
		for a := range 32 {
			f := frame(2, 8, 9)
			want := copyOf(f)
			want.PC, want.R[a] = 3, v
			stepped(t, f, rets(4, 2, api.Ins{Op: api.Set, A: a, V: v}), nil, vm.Went, want)
		}
	}
}

// P6.2: jumps

func TestJumps(t *testing.T) {
	const length = 6
	for at := range length {
		for target := range uint64(length) {
			for _, v := range edges {
				f := frame(at, 4)
				f.R[7] = v
				to, next := copyOf(f), copyOf(f)
				to.PC, next.PC = int(target), at+1
				zero, other := to, next
				if v != 0 {
					zero, other = next, to
				}
				stepped(t, copyOf(f), rets(length, at, api.Ins{Op: api.Jmp, V: target}), nil, vm.Went, to)
				stepped(t, copyOf(f), rets(length, at, api.Ins{Op: api.Jz, A: 7, V: target}), nil, vm.Went, zero)
				stepped(t, copyOf(f), rets(length, at, api.Ins{Op: api.Jnz, A: 7, V: target}), nil, vm.Went, other)
				to.Back = []int{4, at + 1}
				stepped(t, f, rets(length, at, api.Ins{Op: api.Jsr, V: target}), nil, vm.Went, to)
			}
		}
	}
}

// TestJumpsGoWhateverR0Is: Jmp, Jsr and Ret have no register.
func TestJumpsGoWhateverR0Is(t *testing.T) {
	for _, v := range edges {
		f := frame(1, 3)
		f.R[0] = v
		want := copyOf(f)
		want.PC = 0
		stepped(t, copyOf(f), rets(2, 1, api.Ins{Op: api.Jmp}), nil, vm.Went, want)
		want.Back = []int{3, 2}
		stepped(t, copyOf(f), rets(2, 1, api.Ins{Op: api.Jsr}), nil, vm.Went, want)
		want.PC, want.Back = 3, nil
		stepped(t, f, rets(2, 1, api.Ins{Op: api.Ret}), nil, vm.Went, want)
	}
}

// TestReturnPlaces fills Back and empties it.
func TestReturnPlaces(t *testing.T) {
	l := make([]api.Ins, 12)
	for i := range l {
		l[i] = api.Ins{Op: api.Jsr, V: uint64(i + 1)}
	}
	l[11] = api.Ins{Op: api.Ret}
	f, want := frame(0), frame(0)
	for i := range 8 {
		want.PC, want.Back = i+1, append(want.Back, i+1)
		stepped(t, f, l, nil, vm.Went, want)
	}
	for range 2 {
		stepped(t, f, l, nil, vm.Wrong, want)
	}
	for i := 7; i >= 0; i-- {
		f.PC, want.PC, want.Back = 11, i+1, want.Back[:i]
		stepped(t, f, l, nil, vm.Went, want)
	}
	f.PC, want.PC = 11, 11
	for range 2 {
		stepped(t, f, l, nil, vm.Home, want)
	}
}

// TestTooManyReturnPlaces: a caller's frame may have more than fit.
func TestTooManyReturnPlaces(t *testing.T) {
	f := frame(1, 0, 1, 2, 3, 4, 5, 6, 7, 8, 9)
	stepped(t, f, rets(2, 1, api.Ins{Op: api.Jsr}), nil, vm.Wrong, copyOf(f))
	want := copyOf(f)
	want.PC, want.Back = 9, want.Back[:9]
	stepped(t, f, rets(2, 1, api.Ins{Op: api.Ret}), nil, vm.Went, want)
}

// TestBehindTheLast: code may go on behind its end, and is wrong there.
func TestBehindTheLast(t *testing.T) {
	for _, x := range []api.Ins{{Op: api.Set}, {Op: api.Jnz, A: 1}, {Op: api.Jz, A: 2}} {
		f := frame(2)
		f.R[1] = 0
		want := copyOf(f)
		want.PC = 3
		if x.Op == api.Set {
			want.R[0] = 0
		}
		l := rets(3, 2, x)
		stepped(t, f, l, nil, vm.Went, want)
		if how, err := vm.Step(f, l, nil); how != vm.Wrong || err != nil || !same(f, want) {
			t.Errorf("%d %v, and %+v", how, err, *f)
		}
	}
	f := frame(0, math.MinInt)
	want := frame(math.MinInt)
	stepped(t, f, rets(1, 0, api.Ins{Op: api.Ret}), nil, vm.Went, want)
}

// P6.2: accesses

// TestAccesses looks at the one access of each instruction, and at its effect.
func TestAccesses(t *testing.T) {
	for _, b := range []int{-1, 0, 1, 4, 31} {
		for _, v := range edges {
			for _, holds := range []uint64{0, 1, 1001, 1002, 1 << 63, top} {
				f := frame(1, 6)
				addr := v
				if b != -1 {
					addr += f.R[b]
				}
				for _, r := range []struct {
					op      int
					told    access
					a, cell uint64
				}{
					{api.Ld, access{"load", addr, 0, 0}, holds, holds},
					{api.St, access{"store", addr, 0, 1001}, 1001, 1001},
					{api.Swp, access{"swap", addr, 0, 1001}, holds, 1001},
					{api.Fad, access{"add", addr, 0, 1001}, holds, holds + 1001},
					{api.Cas, access{"cas", addr, 1001, 1002}, holds, caught(holds)},
				} {
					g, m := copyOf(f), &oneCell{holds: holds}
					want := copyOf(f)
					want.PC, want.R[1] = 2, r.a
					x := api.Ins{Op: r.op, A: 1, B: b, V: v}
					if r.op == api.Cas {
						x.C = 2
					}
					stepped(t, g, rets(3, 1, x), m, vm.Went, want)
					if m.holds != r.cell || len(m.told) != 1 || m.told[0] != r.told {
						t.Errorf("%+v: the cell has %d, not %d, by %v, not %v", x, m.holds, r.cell, m.told, r.told)
					}
				}
			}
		}
	}
}

// caught is what a cell contains behind a Cas that expects 1001 and brings 1002.
func caught(holds uint64) uint64 {
	if holds == 1001 {
		return 1002
	}
	return holds
}

// TestOneRegisterInAnAccess reads the operands ahead of the writing.
func TestOneRegisterInAnAccess(t *testing.T) {
	for _, r := range []struct {
		op      int
		told    access
		a, cell uint64
	}{
		{api.Ld, access{"load", 1009, 0, 0}, 50, 50},
		{api.St, access{"store", 1009, 0, 1005}, 1005, 1005},
		{api.Swp, access{"swap", 1009, 0, 1005}, 50, 1005},
		{api.Fad, access{"add", 1009, 0, 1005}, 50, 1055},
		{api.Cas, access{"cas", 1009, 1005, 1005}, 50, 50},
	} {
		f, m := frame(0), &oneCell{holds: 50}
		want := copyOf(f)
		want.PC, want.R[5] = 1, r.a
		x := api.Ins{Op: r.op, A: 5, B: 5, V: 4}
		if r.op == api.Cas {
			x.C = 5
		}
		stepped(t, f, rets(1, 0, x), m, vm.Went, want)
		if m.holds != r.cell || len(m.told) != 1 || m.told[0] != r.told {
			t.Errorf("%+v: the cell has %d, by %v", x, m.holds, m.told)
		}
	}
}

// TestExamples are the chapter's.
func TestExamples(t *testing.T) {
	f := frame(0)
	f.R[1] = 8
	want := copyOf(f)
	want.PC, want.R[1] = 1, 7
	stepped(t, f, rets(1, 0, api.Ins{Op: api.Add, A: 1, B: 1, C: -1, V: top}), nil, vm.Went, want)

	m, err := mem.New(8)
	if err == nil {
		err = m.Map(5, 1, api.Wide)
	}
	if err == nil {
		err = m.Store(5, 3)
	}
	if err != nil {
		t.Fatal(err)
	}
	f = frame(0)
	f.R[1], f.R[2] = 3, 9
	want = copyOf(f)
	want.PC = 1
	stepped(t, f, rets(1, 0, api.Ins{Op: api.Cas, A: 1, B: -1, C: 2, V: 5}), m, vm.Went, want)
	if v, err := m.Load(5); v != 9 || err != nil {
		t.Errorf("the cell has %d, %v", v, err)
	}
}

// TestNarrowCells leaves a cell's width to the memory.
func TestNarrowCells(t *testing.T) {
	m, err := mem.New(4)
	if err == nil {
		err = m.Map(0, 4, api.Narrow)
	}
	if err != nil {
		t.Fatal(err)
	}
	l := []api.Ins{
		{Op: api.St, A: 1, B: -1, V: 2},
		{Op: api.Fad, A: 1, B: -1, V: 2},
		{Op: api.Ld, A: 3, B: -1, V: 2},
		{Op: api.Cas, A: 4, B: -1, C: 5, V: 2},
		{Op: api.Swp, A: 6, B: -1, V: 2},
	}
	f := frame(0)
	f.R[1], f.R[4], f.R[5], f.R[6] = 1<<32+3, 5<<32+6, 1<<40+8, top
	want := copyOf(f)
	want.PC, want.R[1], want.R[3], want.R[4], want.R[6] = 5, 3, 6, 6, 8
	for range l {
		if how, err := vm.Step(f, l, m); how != vm.Went || err != nil {
			t.Fatalf("%d %v", how, err)
		}
		if f.PC == 1 && f.R[1] != 1<<32+3 {
			t.Errorf("a store made its register %d", f.R[1])
		}
	}
	if !same(f, want) {
		t.Errorf("%+v, not %+v", *f, *want)
	}
	if v, err := m.Load(2); v != 1<<32-1 || err != nil || m.Count() != 6 {
		t.Errorf("the cell has %d, %v, behind %d accesses", v, err, m.Count())
	}
}

// TestAccessesThatFail have no effect, and tell where they stand.
func TestAccessesThatFail(t *testing.T) {
	within := &api.At{Layer: "cells", N: 40, Err: api.ErrAddr}
	for _, op := range accessing {
		for at := range 3 {
			for _, err := range []error{within, api.ErrState, errors.New("no")} {
				f, m := frame(at, 6), &oneCell{holds: 1004, fails: err}
				before := copyOf(f)
				x := api.Ins{Op: op, A: 4, B: 1, V: 3, M: 7, When: 2}
				if op == api.Cas {
					x.C = 2
				}
				how, got := vm.Step(f, rets(3, at, x), m)
				if how != vm.Wrong || !same(f, before) || m.holds != 1004 || len(m.told) != 1 {
					t.Errorf("%+v: %d, %+v, behind %v", x, how, *f, m.told)
				}
				failed(t, got, at, err)
			}
		}
	}
}

// TestErrorsOfMem are wrapped in the form of R2.
func TestErrorsOfMem(t *testing.T) {
	m, err := mem.New(8)
	if err == nil {
		err = m.Map(3, 1, api.Wide)
	}
	if err != nil {
		t.Fatal(err)
	}
	for _, op := range accessing {
		x := api.Ins{Op: op, A: 1, B: 2, V: 1}
		for _, r := range []struct {
			base uint64
			n    int
		}{{1, 2}, {3, 4}, {7, 8}, {1 << 62, 0}, {1<<62 - 1, 1 << 62}, {top, 0}} {
			f := frame(2)
			f.R[2] = r.base
			before := copyOf(f)
			how, err := vm.Step(f, rets(4, 2, x), m)
			var at *api.At
			if how != vm.Wrong || !same(f, before) || !errors.Is(err, api.ErrAddr) || !errors.As(err, &at) {
				t.Errorf("%+v: %d %v, %+v", x, how, err, *f)
				continue
			}
			failed(t, err, 2, at.Err)
			if !errors.As(errors.Unwrap(err), &at) || at.Layer != "mem" || at.N != r.n {
				t.Errorf("%+v at %d: within is %+v, not %d", x, r.base, at, r.n)
			}
		}
	}
	if m.Count() != 0 {
		t.Errorf("%d accesses", m.Count())
	}
}

// TestNoCells: without a memory the instructions that access it are wrong, and no others.
func TestNoCells(t *testing.T) {
	for op := api.Set; op <= api.Last; op++ {
		f := frame(1, 0)
		before := copyOf(f)
		how, err := vm.Step(f, rets(3, 1, example(op)), nil)
		want := vm.Went
		if op >= api.Call {
			want = vm.Away
		}
		if slices.Contains(accessing, op) {
			want = vm.Wrong
		}
		if how != want || err != nil || same(f, before) == (want == vm.Went) {
			t.Errorf("%+v: %d %v, not %d, %+v", example(op), how, err, want, *f)
		}
	}
}

// P6.2: what isn't done here

// example is an instruction with that operation which is valid in code of three instructions.
func example(op int) api.Ins {
	x := api.Ins{Op: op}
	a, b, c, _ := code.Fields(op)
	if a {
		x.A = 3
	}
	if b {
		x.B = 4
	}
	if c {
		x.C = 5
	}
	return x
}

// TestAway: calls and the library's own instructions are somebody else's.
func TestAway(t *testing.T) {
	for op := api.Call; op <= api.Last; op++ {
		f, m := frame(2, 0, 1), &oneCell{holds: 4}
		stepped(t, f, rets(3, 2, example(op)), m, vm.Away, copyOf(f))
		if len(m.told) > 0 {
			t.Errorf("%d: %v", op, m.told)
		}
	}
	for _, v := range []uint64{0, 1, 999} {
		f := frame(0)
		stepped(t, f, rets(1, 0, api.Ins{Op: api.Call, V: v}), nil, vm.Away, copyOf(f))
	}
}

// TestNoInstruction is at places where there is none.
func TestNoInstruction(t *testing.T) {
	x := api.Ins{Op: api.Set, A: 1, V: 2}
	long := make([]api.Ins, 5)
	for i := range long {
		long[i] = x
	}
	for _, l := range [][]api.Ins{nil, {}, long[:1], long[:4]} {
		for _, pc := range []int{math.MinInt, -1 << 32, -2, -1, len(l), len(l) + 1, 1 << 32, math.MaxInt} {
			f := frame(pc, 3)
			before := copyOf(f)
			if how, err := vm.Step(f, l, &oneCell{}); how != vm.Wrong || err != nil || !same(f, before) {
				t.Errorf("%d of %d: %d %v, %+v", pc, len(l), how, err, *f)
			}
		}
	}
}

func TestNoFrame(t *testing.T) {
	for op := range api.Last + 2 {
		m := &oneCell{}
		if how, err := vm.Step(nil, rets(3, 0, example(op)), m); how != vm.Wrong || err != nil || len(m.told) > 0 {
			t.Errorf("%d: %d %v, %v", op, how, err, m.told)
		}
	}
	if how, err := vm.Step(nil, nil, nil); how != vm.Wrong || err != nil {
		t.Errorf("%d %v", how, err)
	}
}

// judged tests that a step at i in l is wrong if code.Check says that the instruction there, without its mark, may not be, and that it isn't wrong otherwise.
func judged(t *testing.T, l []api.Ins, i int) {
	t.Helper()
	x := l[i]
	bare := slices.Clone(l)
	bare[i].M, bare[i].When = 0, 0
	valid := code.Check(bare, x.Op != api.Call) == nil
	f, m := frame(i, 0), &oneCell{holds: 4}
	before := copyOf(f)
	how, err := vm.Step(f, l, m)
	if err != nil || (how == vm.Wrong) == valid || how != vm.Went && !same(f, before) || how != vm.Went && len(m.told) > 0 {
		t.Errorf("%+v at %d of %d: %d %v, but valid is %v; %+v, %v", x, i, len(l), how, err, valid, *f, m.told)
	}
}

// TestFieldsOfEachOperation puts each number into each field.
func TestFieldsOfEachOperation(t *testing.T) {
	const length = 5
	for op := range api.Last + 2 {
		for _, a := range registers {
			for _, b := range registers {
				for _, c := range registers {
					for _, v := range []uint64{0, 1, length - 1, length, 999, 1000, 1 << 32, 1 << 63, top} {
						judged(t, rets(length, 2, api.Ins{Op: op, A: a, B: b, C: c, V: v}), 2)
					}
				}
			}
		}
	}
}

// TestNoOperations are numbers that are no operation, though they agree with one in some bits.
func TestNoOperations(t *testing.T) {
	for _, op := range []int{math.MinInt, -api.Set, -1, 0, api.Last + 1, 64, 128, 256 + api.Set, 1<<32 + api.Set, math.MaxInt} {
		for _, x := range []api.Ins{{Op: op}, {Op: op, A: 1}, {Op: op, A: 1, B: 2, C: 3, V: 4}, {Op: op, B: -1}} {
			judged(t, rets(2, 1, x), 1)
		}
	}
}

// TestTargets: the length of the code tells which targets there are.
func TestTargets(t *testing.T) {
	for _, op := range jumping[:4] {
		for _, length := range []int{1, 2, 7, api.MaxCode} {
			for _, v := range []uint64{0, 1, uint64(length) - 1, uint64(length), uint64(length) + 1, api.MaxCode, 1 << 32, top} {
				judged(t, rets(length, length-1, api.Ins{Op: op, V: v}), length-1)
			}
		}
	}
}

// TestLongCode: code longer than a program may be is executed as any other.
func TestLongCode(t *testing.T) {
	const length = 3 * api.MaxCode
	f := frame(api.MaxCode)
	want := copyOf(f)
	want.PC = length - 1
	l := rets(length, api.MaxCode, api.Ins{Op: api.Jmp, V: length - 1})
	stepped(t, f, l, nil, vm.Went, want)
	l[length-1] = api.Ins{Op: api.Jmp, V: length}
	stepped(t, f, l, nil, vm.Wrong, want)
}

// TestMarksDoNotMatter here, right ones and wrong ones.
func TestMarksDoNotMatter(t *testing.T) {
	marks := []int{math.MinInt, -1, 0, 1, 50, 99, 100, math.MaxInt}
	for op := api.Set; op <= api.Last; op++ {
		want, cell := frame(1, 0), &oneCell{holds: 4}
		how, err := vm.Step(want, rets(3, 1, example(op)), cell)
		if how == vm.Wrong || err != nil {
			t.Errorf("%d: %d %v", op, how, err)
		}
		for _, m := range marks {
			for _, when := range marks {
				x, c := example(op), &oneCell{holds: 4}
				x.M, x.When = m, when
				stepped(t, frame(1, 0), rets(3, 1, x), c, how, want)
				if c.holds != cell.holds || !slices.Equal(c.told, cell.told) {
					t.Errorf("%+v: %v, not %v", x, c.told, cell.told)
				}
			}
		}
	}
}

// TestWrongElsewhere: only the instruction at PC is looked at.
func TestWrongElsewhere(t *testing.T) {
	l := []api.Ins{{Op: 99}, {Op: api.Set, A: 2, V: 8}, {Op: api.Set, A: 32}, {Op: api.Jmp, V: 40}}
	f := frame(1)
	want := copyOf(f)
	want.PC, want.R[2] = 2, 8
	stepped(t, f, l, nil, vm.Went, want)
	stepped(t, f, l, nil, vm.Wrong, want)
}

// R3: what is passed

// TestCodeStays behind each step, spare capacity included.
func TestCodeStays(t *testing.T) {
	for op := range api.Last + 2 {
		room := rets(6, 1, example(op))
		before := slices.Clone(room)
		vm.Step(frame(1, 0), room[:3], &oneCell{})
		vm.Step(frame(1, 0), room[:3], &oneCell{fails: api.ErrAddr})
		if !slices.Equal(room, before) {
			t.Errorf("%d: the code became %+v", op, room)
		}
	}
}

// TestCodeIsNotKept: a later step goes by what is passed to it.
func TestCodeIsNotKept(t *testing.T) {
	f, l := frame(0), rets(3, 0, api.Ins{Op: api.Jsr, V: 1})
	want := copyOf(f)
	want.PC, want.Back = 1, []int{1}
	stepped(t, f, l, nil, vm.Went, want)
	l[1] = api.Ins{Op: api.Set, A: 1, V: 5}
	want.PC, want.R[1] = 2, 5
	stepped(t, f, l, nil, vm.Went, want)
}

// TestCopiedFrames: a frame and its copy go their own ways, though they began with one Back that has room.
func TestCopiedFrames(t *testing.T) {
	l := []api.Ins{{Op: api.Jsr, V: 2}, {Op: api.Jsr, V: 2}, {Op: api.Ret}}
	room := []int{10, 11, 12, 13}
	f := frame(0)
	f.Back = room[:2]
	g := *f
	g.PC = 1
	vm.Step(f, l, nil)
	vm.Step(&g, l, nil)
	if !slices.Equal(f.Back, []int{10, 11, 1}) || !slices.Equal(g.Back, []int{10, 11, 2}) {
		t.Errorf("%v and %v", f.Back, g.Back)
	}
	h := *f
	for range 2 {
		f.PC = 2
		vm.Step(f, l, nil)
	}
	f.PC = 0
	vm.Step(f, l, nil)
	if !slices.Equal(f.Back, []int{10, 1}) || !slices.Equal(h.Back, []int{10, 11, 1}) || !slices.Equal(g.Back, []int{10, 11, 2}) {
		t.Errorf("%v, %v and %v", f.Back, h.Back, g.Back)
	}
	if !slices.Equal(room, []int{10, 11, 12, 13}) {
		t.Errorf("the room became %v", room)
	}
}

// TestErrorsAreTheirOwn: no two errors are one thing.
func TestErrorsAreTheirOwn(t *testing.T) {
	l := rets(2, 0, api.Ins{Op: api.Ld})
	_, a := vm.Step(frame(0), l, &oneCell{fails: api.ErrAddr})
	_, b := vm.Step(frame(0), l, &oneCell{fails: api.ErrAddr})
	var at *api.At
	if a == b || !errors.As(a, &at) {
		t.Fatalf("%v and %v", a, b)
	}
	at.N, at.Layer = 9, "x"
	failed(t, b, 0, api.ErrAddr)
}

// P6.3

// TestThereAndBack: Jsr and then Ret restore the frame, but for the place.
func TestThereAndBack(t *testing.T) {
	for n := range api.MaxReturns {
		for at := range 4 {
			for target := range 4 {
				if at == target {
					continue
				}
				l := rets(4, at, api.Ins{Op: api.Jsr, V: uint64(target)})
				f := &vm.Frame{PC: at}
				for i := range n {
					f.Back = append(f.Back, i)
				}
				want := *copyOf(f)
				want.PC = at + 1
				for range 2 {
					if how, err := vm.Step(f, l, nil); how != vm.Went || err != nil {
						t.Errorf("%d %v", how, err)
					}
				}
				if !reflect.DeepEqual(*f, want) {
					t.Errorf("%+v, not %+v", *f, want)
				}
			}
		}
	}
}

// TestNothingElseMatters: the same frame and cell give the same effect, in other code and another memory, whatever has been done before.
func TestNothingElseMatters(t *testing.T) {
	random := rand.New(rand.NewSource(63))
	for range 3000 {
		x := randomIns(random, 6)
		f := randomFrame(random, 2)
		g := copyOf(f)
		m, o := &oneCell{holds: edges[random.Intn(len(edges))]}, &oneCell{}
		for range 5 {
			vm.Step(randomFrame(random, 3), rets(6, 3, randomIns(random, 6)), o)
		}
		o.holds, o.told = m.holds, nil
		how, err := vm.Step(f, rets(6, 2, x), m)
		l := make([]api.Ins, 9)
		l[2] = x
		also, err2 := vm.Step(g, l, o)
		if how != also || err != nil || err2 != nil || !same(f, g) || m.holds != o.holds || !slices.Equal(m.told, o.told) {
			t.Errorf("%+v: %d and %d, %+v and %+v, %v and %v", x, how, also, *f, *g, m.told, o.told)
		}
	}
}

// randomIns is a plain instruction that is valid in code of that length.
func randomIns(r *rand.Rand, length int) api.Ins {
	reg := func(bare bool) int {
		if bare && r.Intn(3) == 0 {
			return -1
		}
		return r.Intn(32)
	}
	number := edges[r.Intn(len(edges))]
	if r.Intn(2) == 0 {
		number = r.Uint64() >> r.Intn(64)
	}
	x := api.Ins{Op: api.Set + r.Intn(api.Cas)}
	switch {
	case x.Op == api.Set:
		x.A, x.V = reg(false), number
	case x.Op == api.Mov:
		x.A, x.B = reg(false), reg(false)
	case x.Op <= api.Lt:
		x.A, x.B, x.C = reg(false), reg(false), reg(true)
		if x.C == -1 {
			x.V = number
		}
	case x.Op == api.Jz || x.Op == api.Jnz:
		x.A = reg(false)
		fallthrough
	case x.Op == api.Jmp || x.Op == api.Jsr:
		x.V = uint64(r.Intn(length))
	case x.Op == api.Cas:
		x.C = reg(false)
		fallthrough
	case x.Op >= api.Ld:
		x.A, x.B, x.V = reg(false), reg(true), number
	}
	return x
}

func randomFrame(r *rand.Rand, pc int) *vm.Frame {
	f := frame(pc)
	for i := range f.R {
		f.R[i] = edges[r.Intn(len(edges))]
	}
	for range r.Intn(api.MaxReturns + 1) {
		f.Back = append(f.Back, r.Intn(6))
	}
	return f
}

// machine is a second reading of the chapter: a frame and 8 wide cells.
type machine struct {
	f     vm.Frame
	cells [8]uint64
}

// step is how a step goes, and the accesses that succeed are told by the cells.
func (k *machine) step(l []api.Ins) (int, bool) {
	if k.f.PC < 0 || k.f.PC >= len(l) {
		return vm.Wrong, false
	}
	x, r := l[k.f.PC], &k.f.R
	c := x.V
	if x.C != -1 {
		c = r[x.C]
	}
	at := x.V
	if x.B != -1 {
		at += r[x.B]
	}
	isAccess := slices.Contains(accessing, x.Op)
	if isAccess && at >= 8 {
		return vm.Wrong, true
	}
	next, n := k.f.PC+1, len(k.f.Back)
	switch x.Op {
	case api.Set:
		r[x.A] = x.V
	case api.Jmp:
		next = int(x.V)
	case api.Jz:
		if r[x.A] == 0 {
			next = int(x.V)
		}
	case api.Jnz:
		if r[x.A] != 0 {
			next = int(x.V)
		}
	case api.Jsr:
		if n == 8 {
			return vm.Wrong, false
		}
		k.f.Back = append(slices.Clone(k.f.Back), next)
		next = int(x.V)
	case api.Ret:
		if n == 0 {
			return vm.Home, false
		}
		next, k.f.Back = k.f.Back[n-1], k.f.Back[:n-1]
	case api.Ld:
		r[x.A] = k.cells[at]
	case api.St:
		k.cells[at] = r[x.A]
	case api.Swp:
		r[x.A], k.cells[at] = k.cells[at], r[x.A]
	case api.Fad:
		r[x.A], k.cells[at] = k.cells[at], k.cells[at]+r[x.A]
	case api.Cas:
		was := k.cells[at]
		if was == r[x.A] {
			k.cells[at] = r[x.C]
		}
		r[x.A] = was
	default:
		r[x.A] = model(x.Op, r[max(x.B, 0)], c)
	}
	k.f.PC = next
	return vm.Went, false
}

// TestRuns compares long runs of random programs with the second reading.
func TestRuns(t *testing.T) {
	random := rand.New(rand.NewSource(666))
	for range 400 {
		l := make([]api.Ins, 1+random.Intn(30))
		for i := range l {
			l[i] = randomIns(random, len(l))
			if slices.Contains(accessing, l[i].Op) && random.Intn(4) > 0 {
				l[i].B, l[i].V = -1, uint64(random.Intn(8))
			}
		}
		run(t, random, l)
	}
}

// run puts the frame elsewhere whenever it can't go on.
func run(t *testing.T, random *rand.Rand, l []api.Ins) {
	t.Helper()
	m, err := mem.New(8)
	if err == nil {
		err = m.Map(0, 8, api.Wide)
	}
	if err != nil {
		t.Fatal(err)
	}
	f, k := &vm.Frame{}, &machine{}
	for i := range 500 {
		want, fails := k.step(l)
		at := f.PC
		how, err := vm.Step(f, l, m)
		if how != want || (err != nil) != fails || !same(f, &k.f) {
			t.Fatalf("%d steps: %d %v at %d, not %d; %+v, not %+v", i, how, err, at, want, *f, k.f)
		}
		if fails {
			var e *api.At
			if !errors.As(err, &e) || e.N != at || !errors.Is(err, api.ErrAddr) {
				t.Fatalf("%#v", err)
			}
		}
		if how != vm.Went || random.Intn(20) == 0 {
			f.PC = random.Intn(len(l))
			k.f.PC = f.PC
		}
		if n := random.Intn(32); random.Intn(4) == 0 {
			f.R[n] = edges[random.Intn(len(edges))]
			k.f.R[n] = f.R[n]
		}
		if len(f.Back) == 8 && random.Intn(2) == 0 {
			f.Back, k.f.Back = nil, nil
		}
	}
	for i, v := range k.cells {
		if got, err := m.Load(uint64(i)); got != v || err != nil {
			t.Fatalf("cell %d has %d, %v, not %d", i, got, err, v)
		}
	}
}
