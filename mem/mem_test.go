package mem_test

import (
	"errors"
	"math"
	"math/big"
	"math/rand"
	"testing"

	"distaff/api"
	"distaff/mem"
)

const top = math.MaxUint64

// noWidths are numbers that are no width, though they lie beside one, or agree with one in some bits.
var noWidths = []int{math.MinInt, -64, -32, -1, 0, 1, 31, 33, 48, 63, 65, 96, 128, 1<<32 + 32, 1<<32 + 64, math.MaxInt}

// edges are the values at which a cell of 32 or 64 bits begins, ends or wraps around.
var edges = []uint64{0, 1, 2, 5, 1<<31 - 1, 1 << 31, 1<<32 - 2, 1<<32 - 1, 1 << 32, 1<<32 + 1, 1<<33 - 1, 1<<63 - 1, 1 << 63, 0x0123456789ABCDEF, top - 1, top}

// made is a memory of so many cells.
func made(t *testing.T, cells int) *mem.Mem {
	t.Helper()
	m, err := mem.New(cells)
	if err != nil || m == nil {
		t.Fatalf("New(%d): %v, %v", cells, m, err)
	}
	return m
}

// fine tests that there is no error.
func fine(t *testing.T, err error) {
	t.Helper()
	if err != nil {
		t.Errorf("refused: %v", err)
	}
}

// failed tests that err has the form of R2, with that place and kind.
func failed(t *testing.T, err error, n int, kind api.Err) {
	t.Helper()
	at, is := err.(*api.At)
	if !is {
		t.Errorf("the error is %v, not %d %v", err, n, kind)
		return
	}
	if at.Layer != "mem" || at.N != n || !errors.Is(err, kind) {
		t.Errorf("the error is %s %d %v, not %d %v", at.Layer, at.N, at.Err, n, kind)
	}
}

// holds tests that a cell contains v.
func holds(t *testing.T, m *mem.Mem, at, v uint64) {
	t.Helper()
	if got, err := m.Load(at); err != nil || got != v {
		t.Errorf("Load(%d) is %d, %v, not %d", at, got, err, v)
	}
}

// is tests what an access returned.
func is(t *testing.T, want uint64) func(got uint64, err error) {
	t.Helper()
	return func(got uint64, err error) {
		t.Helper()
		if err != nil || got != want {
			t.Errorf("%d, %v, not %d", got, err, want)
		}
	}
}

// P2.1

func TestNewOfEachSize(t *testing.T) {
	for _, cells := range []int{1, 2, 3, 1000, api.MaxCells - 1, api.MaxCells} {
		m := made(t, cells)
		if m.There() != 0 || m.Count() != 0 {
			t.Errorf("New(%d): %d cells, %d accesses", cells, m.There(), m.Count())
		}
		for at := range uint64(cells + 2) {
			if m.Width(at) != 0 {
				t.Fatalf("New(%d): cell %d is mapped", cells, at)
			}
		}
		fine(t, m.Map(0, cells, api.Wide))
		if m.There() != cells || m.Width(0) != 64 || m.Width(uint64(cells-1)) != 64 || m.Width(uint64(cells)) != 0 {
			t.Errorf("New(%d) mapped whole: %d cells", cells, m.There())
		}
	}
}

func TestNewOfOtherSizes(t *testing.T) {
	for _, cells := range []int{math.MinInt, -api.MaxCells, -1, 0, api.MaxCells + 1, 1 << 32, math.MaxInt} {
		m, err := mem.New(cells)
		failed(t, err, 0, api.ErrArg)
		if m != nil {
			t.Errorf("New(%d) is a memory", cells)
		}
	}
}

func TestMapSetsWidthAndZero(t *testing.T) {
	m := made(t, 10)
	fine(t, m.Map(2, 3, api.Narrow))
	fine(t, m.Map(5, 2, api.Wide))
	fine(t, m.Map(9, 1, api.Wide))
	for at, want := range []int{0, 0, 32, 32, 32, 64, 64, 0, 0, 64, 0, 0} {
		if got := m.Width(uint64(at)); got != want {
			t.Errorf("Width(%d) is %d, not %d", at, got, want)
		}
		if want != 0 {
			holds(t, m, uint64(at), 0)
		}
	}
	if m.There() != 6 {
		t.Errorf("%d cells", m.There())
	}
	for _, at := range []uint64{10, 11, api.MaxCells, 1 << 32, 1<<32 + 2, 1 << 62, 1 << 63, 1<<63 + 5, top - 1, top} {
		if m.Width(at) != 0 {
			t.Errorf("Width(%d) is %d", at, m.Width(at))
		}
	}
}

func TestMapOfNoCellsOrNoWidth(t *testing.T) {
	m := made(t, 4)
	fine(t, m.Map(0, 1, api.Wide))
	for _, n := range []int{0, -1, -4, math.MinInt} {
		for _, at := range []int{0, 1, -1, 4, 5, math.MinInt, math.MaxInt} {
			failed(t, m.Map(at, n, api.Wide), 0, api.ErrArg)
			failed(t, m.Unmap(at, n), 0, api.ErrArg)
		}
	}
	for _, width := range noWidths {
		for _, at := range []int{0, 1, -1, 5} {
			failed(t, m.Map(at, 1, width), 0, api.ErrArg)
		}
	}
	if m.There() != 1 || m.Width(1) != 0 || m.Width(0) != 64 {
		t.Error("what was refused changed something")
	}
}

// outside are cells that a memory of 4 cells has not all.
var outside = []struct{ at, n int }{
	{-1, 1}, {-1, 4}, {-4, 2}, {math.MinInt, 1}, {math.MinInt, math.MaxInt},
	{0, 5}, {1, 4}, {3, 2}, {4, 1}, {5, 1}, {api.MaxCells, 1},
	{0, math.MaxInt}, {1, math.MaxInt}, {3, math.MaxInt - 2}, {4, math.MaxInt}, {math.MaxInt, 1}, {math.MaxInt, 2}, {math.MaxInt, math.MaxInt}, {1<<62 + 1, 1},
}

func TestMapAndUnmapOfCellsOutside(t *testing.T) {
	for _, r := range outside {
		m := made(t, 4)
		failed(t, m.Map(r.at, r.n, api.Wide), r.at, api.ErrAddr)
		failed(t, m.Unmap(r.at, r.n), r.at, api.ErrAddr)
		if m.There() != 0 {
			t.Errorf("%+v: %d cells", r, m.There())
		}
		fine(t, m.Map(0, 4, api.Wide))
		failed(t, m.Map(r.at, r.n, api.Narrow), r.at, api.ErrAddr)
		failed(t, m.Unmap(r.at, r.n), r.at, api.ErrAddr)
		for at := range uint64(4) {
			if m.Width(at) != 64 {
				t.Errorf("%+v: Width(%d) is %d", r, at, m.Width(at))
			}
		}
	}
}

func TestMapOfMappedCells(t *testing.T) {
	m := made(t, 10)
	fine(t, m.Map(3, 1, api.Narrow))
	fine(t, m.Map(6, 2, api.Wide))
	fine(t, m.Store(3, 33))
	fine(t, m.Store(6, 66))
	for _, r := range []struct{ at, n, first int }{
		{0, 10, 3}, {0, 4, 3}, {3, 1, 3}, {3, 7, 3}, {4, 3, 6}, {6, 1, 6}, {5, 5, 6}, {7, 1, 7}, {7, 3, 7},
	} {
		for _, width := range []int{api.Narrow, api.Wide} {
			failed(t, m.Map(r.at, r.n, width), r.first, api.ErrBlock)
		}
	}
	for at, want := range []int{0, 0, 0, 32, 0, 0, 64, 64, 0, 0} {
		if got := m.Width(uint64(at)); got != want {
			t.Errorf("Width(%d) is %d, not %d", at, got, want)
		}
	}
	holds(t, m, 3, 33)
	holds(t, m, 6, 66)
	if m.There() != 3 {
		t.Errorf("%d cells", m.There())
	}
}

func TestUnmapOfUnmappedCells(t *testing.T) {
	m := made(t, 10)
	fine(t, m.Map(2, 3, api.Narrow))
	fine(t, m.Map(6, 4, api.Wide))
	fine(t, m.Store(2, 22))
	fine(t, m.Store(9, 99))
	for _, r := range []struct{ at, n, first int }{
		{0, 10, 0}, {0, 1, 0}, {1, 2, 1}, {2, 4, 5}, {2, 8, 5}, {4, 2, 5}, {5, 1, 5}, {5, 5, 5},
	} {
		failed(t, m.Unmap(r.at, r.n), r.first, api.ErrBlock)
	}
	holds(t, m, 2, 22)
	holds(t, m, 9, 99)
	if m.There() != 7 || m.Width(3) != 32 || m.Width(4) != 32 || m.Width(6) != 64 {
		t.Error("what was refused changed something")
	}
}

func TestUnmapAcrossWidthsAndMapAgain(t *testing.T) {
	m := made(t, 6)
	fine(t, m.Map(0, 3, api.Narrow))
	fine(t, m.Map(3, 3, api.Wide))
	for at := range uint64(6) {
		fine(t, m.Store(at, at+10))
	}
	fine(t, m.Unmap(2, 3))
	for at, want := range []int{32, 32, 0, 0, 0, 64} {
		if got := m.Width(uint64(at)); got != want {
			t.Errorf("Width(%d) is %d, not %d", at, got, want)
		}
	}
	if m.There() != 3 {
		t.Errorf("%d cells", m.There())
	}
	failed(t, m.Unmap(2, 1), 2, api.ErrBlock)
	fine(t, m.Map(2, 2, api.Wide))
	fine(t, m.Map(4, 1, api.Narrow))
	for at, want := range []uint64{10, 11, 0, 0, 0, 15} {
		holds(t, m, uint64(at), want)
	}
	fine(t, m.Store(2, top))
	fine(t, m.Store(4, top))
	holds(t, m, 2, top)
	holds(t, m, 4, 1<<32-1)
	fine(t, m.Unmap(0, 6))
	if m.There() != 0 {
		t.Errorf("%d cells", m.There())
	}
}

// P2.2

func TestAccessesToNoCell(t *testing.T) {
	m := made(t, 6)
	fine(t, m.Map(1, 3, api.Wide))
	fine(t, m.Unmap(2, 1))
	fine(t, m.Store(1, 7))
	fine(t, m.Store(3, 8))
	for _, at := range []uint64{0, 2, 4, 5, 6, 7, api.MaxCells, 1<<32 + 1, 1<<62 - 1, 1 << 62, 1<<62 + 1, 1<<62 + 3, 1 << 63, 1<<63 + 1, top} {
		n := 0
		if at <= 1<<62 {
			n = int(at)
		}
		got := [4]uint64{}
		errs := [5]error{}
		got[0], errs[0] = m.Load(at)
		got[1], errs[1] = m.Swap(at, 9)
		got[2], errs[2] = m.Add(at, 9)
		got[3], errs[3] = m.Cas(at, 0, 9)
		errs[4] = m.Store(at, 9)
		for _, err := range errs {
			failed(t, err, n, api.ErrAddr)
		}
		if got != [4]uint64{} {
			t.Errorf("at %d: %v", at, got)
		}
	}
	if m.Count() != 2 || m.There() != 2 {
		t.Errorf("%d accesses, %d cells", m.Count(), m.There())
	}
	holds(t, m, 1, 7)
	holds(t, m, 3, 8)
	fine(t, m.Map(2, 1, api.Wide))
	holds(t, m, 2, 0)
}

func TestAccessesByHand(t *testing.T) {
	m := made(t, 8)
	fine(t, m.Map(3, 2, api.Narrow))
	fine(t, m.Store(4, 4294967301))
	is(t, 5)(m.Load(4))
	is(t, 5)(m.Cas(4, 5, 9))
	is(t, 9)(m.Cas(4, 5, 1))
	is(t, 9)(m.Cas(4, 1<<32+9, 1<<33+4))
	is(t, 4)(m.Swap(4, 1<<40+6))
	is(t, 6)(m.Add(4, 1<<32-7))
	is(t, 1<<32-1)(m.Add(4, 1<<50+3))
	is(t, 2)(m.Load(4))
	is(t, 0)(m.Load(3))
	fine(t, m.Map(5, 1, api.Wide))
	fine(t, m.Store(5, 4294967301))
	is(t, 4294967301)(m.Cas(5, 5, 9))
	is(t, 4294967301)(m.Swap(5, top))
	is(t, top)(m.Add(5, 3))
	is(t, 2)(m.Cas(5, 2, top))
	is(t, top)(m.Load(5))
	if m.Count() != 16 {
		t.Errorf("%d accesses", m.Count())
	}
}

func TestEachAccessCountsOnce(t *testing.T) {
	m := made(t, 2)
	fine(t, m.Map(0, 1, api.Wide))
	fine(t, m.Unmap(0, 1))
	fine(t, m.Map(0, 1, api.Wide))
	m.Width(0)
	m.There()
	if m.Count() != 0 {
		t.Errorf("%d accesses before the first", m.Count())
	}
	for i, access := range []func(){
		func() { m.Load(0) },
		func() { m.Store(0, 1) },
		func() { m.Swap(0, 1) },
		func() { m.Add(0, 1) },
		func() { m.Cas(0, 2, 5) },
		func() { m.Cas(0, 2, 5) },
	} {
		access()
		if m.Count() != i+1 {
			t.Errorf("%d accesses, not %d", m.Count(), i+1)
		}
	}
	m.Load(1)
	m.Cas(2, 0, 0)
	fine(t, m.Unmap(0, 1))
	m.Load(0)
	if m.Count() != 6 {
		t.Errorf("%d accesses in the end", m.Count())
	}
}

// P2.3

// plain is a memory in whole numbers without a bound: a width and contents by address.
type plain struct {
	width map[uint64]int
	value map[uint64]*big.Int
	count int
}

func whole(v uint64) *big.Int { return new(big.Int).SetUint64(v) }

func (p *plain) modulo(at uint64, v *big.Int) *big.Int {
	return new(big.Int).Mod(v, new(big.Int).Lsh(big.NewInt(1), uint(p.width[at])))
}

// put stores v and returns what was there.
func (p *plain) put(at uint64, v *big.Int) uint64 {
	p.count++
	was := p.value[at]
	p.value[at] = p.modulo(at, v)
	return was.Uint64()
}

// both does one access to the memory and to the plain one.
func both(t *testing.T, m *mem.Mem, p *plain, kind int, at, old, v uint64) {
	t.Helper()
	is := func(want uint64) func(uint64, error) { return is(t, want) }
	switch kind {
	case 0:
		is(p.put(at, p.value[at]))(m.Load(at))
	case 1:
		p.put(at, whole(v))
		fine(t, m.Store(at, v))
	case 2:
		is(p.put(at, whole(v)))(m.Swap(at, v))
	case 3:
		is(p.put(at, new(big.Int).Add(p.value[at], whole(v))))(m.Add(at, v))
	case 4:
		next := p.value[at]
		if p.modulo(at, whole(old)).Cmp(next) == 0 {
			next = whole(v)
		}
		is(p.put(at, next))(m.Cas(at, old, v))
	}
}

// same tests that both contain the same; to look is an access to each cell.
func same(t *testing.T, m *mem.Mem, p *plain, cells int) {
	t.Helper()
	if m.There() != len(p.width) || m.Count() != p.count {
		t.Fatalf("%d cells and %d accesses, not %d and %d", m.There(), m.Count(), len(p.width), p.count)
	}
	for at := range uint64(cells) {
		if m.Width(at) != p.width[at] {
			t.Fatalf("Width(%d) is %d, not %d", at, m.Width(at), p.width[at])
		}
		if p.width[at] != 0 {
			both(t, m, p, 0, at, 0, 0)
		}
	}
}

func (p *plain) setAll(at, n, width int) {
	for i := range n {
		p.width[uint64(at+i)] = width
		p.value[uint64(at+i)] = new(big.Int)
	}
}

func (p *plain) clearAll(at, n int) {
	for i := range n {
		delete(p.width, uint64(at+i))
	}
}

func TestEachAccessOfEachValue(t *testing.T) {
	for _, width := range []int{api.Narrow, api.Wide} {
		m := made(t, 3)
		p := &plain{width: map[uint64]int{}, value: map[uint64]*big.Int{}}
		fine(t, m.Map(0, 3, width))
		p.setAll(0, 3, width)
		for _, first := range edges {
			for _, v := range edges {
				for kind := range 5 {
					both(t, m, p, 1, 1, 0, first)
					both(t, m, p, kind, 1, v, 77)
					both(t, m, p, 0, 1, 0, 0)
					both(t, m, p, kind, 1, p.value[1].Uint64(), v)
					same(t, m, p, 3)
				}
			}
		}
	}
}

// change maps or unmaps some cells in both, or neither if they are not all unmapped or mapped.
func change(t *testing.T, m *mem.Mem, p *plain, r *rand.Rand, cells int) {
	t.Helper()
	at := r.Intn(cells)
	n := 1 + r.Intn(min(4, cells-at))
	width := 32 + 32*r.Intn(2)
	unmap := r.Intn(2) == 0
	first := at
	for first < at+n && (p.width[uint64(first)] != 0) == unmap {
		first++
	}
	var err error
	if unmap {
		err = m.Unmap(at, n)
	} else {
		err = m.Map(at, n, width)
	}
	switch {
	case first < at+n:
		failed(t, err, first, api.ErrBlock)
	case unmap:
		fine(t, err)
		p.clearAll(at, n)
	default:
		fine(t, err)
		p.setAll(at, n, width)
	}
}

func TestLongLives(t *testing.T) {
	r := rand.New(rand.NewSource(3))
	for range 60 {
		cells := 1 + r.Intn(12)
		m := made(t, cells)
		p := &plain{width: map[uint64]int{}, value: map[uint64]*big.Int{}}
		for range 300 {
			at := uint64(r.Intn(cells))
			switch {
			case r.Intn(4) == 0:
				change(t, m, p, r, cells)
			case p.width[at] == 0:
				_, err := m.Add(at, 1)
				failed(t, err, int(at), api.ErrAddr)
			default:
				old := edges[r.Intn(len(edges))]
				if r.Intn(2) == 0 {
					old = p.value[at].Uint64()
				}
				both(t, m, p, r.Intn(5), at, old, edges[r.Intn(len(edges))])
			}
			same(t, m, p, cells)
		}
	}
}

func TestTwoMemoriesHaveNothingInCommon(t *testing.T) {
	a, b := made(t, 4), made(t, 4)
	fine(t, a.Map(0, 4, api.Wide))
	fine(t, a.Store(1, 5))
	if b.There() != 0 || b.Count() != 0 || b.Width(1) != 0 {
		t.Error("the second has something of the first")
	}
	fine(t, b.Map(1, 1, api.Narrow))
	holds(t, b, 1, 0)
	holds(t, a, 1, 5)
	fine(t, b.Unmap(1, 1))
	holds(t, a, 1, 5)
}

func TestErrorsAreNotShared(t *testing.T) {
	m := made(t, 4)
	_, first := m.Load(3)
	second := m.Store(2, 1)
	var a, b *api.At
	if !errors.As(first, &a) || !errors.As(second, &b) {
		t.Fatal("no place")
	}
	if a == b || a.N != 3 || b.N != 2 {
		t.Errorf("%d, %d", a.N, b.N)
	}
}
