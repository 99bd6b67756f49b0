package alloc_test

import (
	"errors"
	"math"
	"math/rand"
	"slices"
	"testing"

	"distaff/alloc"
	"distaff/api"
	"distaff/mem"
)

// noWidths are numbers that are no width, though they lie beside one, or agree with one in some bits.
var noWidths = []int{math.MinInt, -64, -32, -1, 0, 1, 31, 33, 48, 63, 65, 96, 128, 1<<32 + 32, 1<<32 + 64, math.MaxInt}

// noLengths are numbers of cells that no block has.
var noLengths = []int{math.MinInt, -api.MaxBlock, -1, 0, api.MaxBlock + 1, api.MaxCells, 1 << 32, 1<<32 + 1, math.MaxInt}

// memory is one of so many cells.
func memory(t *testing.T, cells int) *mem.Mem {
	t.Helper()
	m, err := mem.New(cells)
	if err != nil {
		t.Fatalf("mem.New(%d): %v", cells, err)
	}
	return m
}

// over is an allocator of cells of m.
func over(t *testing.T, m *mem.Mem, from, to int) *alloc.Alloc {
	t.Helper()
	a, err := alloc.New(m, from, to)
	if err != nil || a == nil {
		t.Fatalf("New(%d, %d): %v, %v", from, to, a, err)
	}
	return a
}

// made is a memory of so many cells with an allocator of those from from to to - 1.
func made(t *testing.T, cells, from, to int) (*mem.Mem, *alloc.Alloc) {
	t.Helper()
	m := memory(t, cells)
	return m, over(t, m, from, to)
}

// fine tests that there is no error.
func fine(t *testing.T, err error) {
	t.Helper()
	if err != nil {
		t.Errorf("refused: %v", err)
	}
}

// failed tests that err has the form of R2, with that place, and is of that kind itself.
func failed(t *testing.T, err error, n int, kind api.Err) {
	t.Helper()
	at, is := err.(*api.At)
	if !is {
		t.Errorf("the error is %v, not %d %v", err, n, kind)
		return
	}
	if at.Layer != "alloc" || at.N != n || at.Err != kind {
		t.Errorf("the error is %s %d %v, not %d %v", at.Layer, at.N, at.Err, n, kind)
	}
}

// failedBelow tests that err has the form of R2, with that place, and wraps an error of mem with the other place and that kind.
func failedBelow(t *testing.T, err error, n, below int, kind api.Err) {
	t.Helper()
	var at *api.At
	if !errors.As(err, &at) || at.Layer != "alloc" || at.N != n || !errors.Is(err, kind) {
		t.Errorf("the error is %#v, not %d %v", err, n, kind)
		return
	}
	inner, is := at.Err.(*api.At)
	if !is || inner.Layer != "mem" || inner.N != below || inner.Err != kind {
		t.Errorf("it wraps %#v, not mem %d %v", at.Err, below, kind)
	}
}

// gets tests that Get allocates the block at want.
func gets(t *testing.T, a *alloc.Alloc, n, width, want int) {
	t.Helper()
	if at, err := a.Get(n, width); err != nil || at != want {
		t.Errorf("Get(%d, %d) is %d, %v, not %d", n, width, at, err, want)
	}
}

// getFails tests that Get refuses, by an error of its own.
func getFails(t *testing.T, a *alloc.Alloc, n, width int, kind api.Err) {
	t.Helper()
	at, err := a.Get(n, width)
	failed(t, err, 0, kind)
	if at != 0 {
		t.Errorf("Get(%d, %d) fails with %d", n, width, at)
	}
}

// has tests which blocks there are, and what follows from them.
func has(t *testing.T, a *alloc.Alloc, widest int, want ...alloc.Block) {
	t.Helper()
	if got := slices.Collect(a.Blocks()); !slices.Equal(got, want) {
		t.Errorf("the blocks are %v, not %v", got, want)
	}
	used := 0
	for _, b := range want {
		used += b.N
	}
	if a.Used() != used {
		t.Errorf("Used is %d, not %d", a.Used(), used)
	}
	if a.Widest() != widest {
		t.Errorf("Widest is %d, not %d", a.Widest(), widest)
	}
}

// mapped tests the widths of a memory's cells.
func mapped(t *testing.T, m *mem.Mem, want ...int) {
	t.Helper()
	for at, width := range want {
		if got := m.Width(uint64(at)); got != width {
			t.Errorf("Width(%d) is %d, not %d", at, got, width)
		}
	}
}

// P3.1: New

func TestNewOfEachRange(t *testing.T) {
	for _, r := range []struct{ cells, from, to int }{
		{1, 0, 0}, {1, 0, 1}, {1, 1, 1}, {20, 10, 20}, {20, 3, 4}, {api.MaxCells, 0, api.MaxCells},
		{8, 4, 100}, {8, 50, 60}, {8, 0, math.MaxInt}, {8, math.MaxInt, math.MaxInt}, {8, math.MaxInt - 1, math.MaxInt},
	} {
		m, a := made(t, r.cells, r.from, r.to)
		has(t, a, r.to-r.from)
		if m.There() != 0 {
			t.Errorf("%+v: New maps %d cells", r, m.There())
		}
	}
}

func TestNewOfOtherRanges(t *testing.T) {
	m := memory(t, 20)
	for _, r := range []struct{ from, to int }{
		{-1, 5}, {-1, -1}, {-5, -2}, {-1, -5}, {-1, 0}, {5, 4}, {1, 0}, {5, -1}, {0, -1},
		{math.MinInt, 0}, {math.MinInt, math.MaxInt}, {math.MinInt, math.MinInt}, {0, math.MinInt}, {math.MaxInt, 0}, {math.MaxInt, math.MaxInt - 1}, {math.MaxInt, math.MinInt},
	} {
		a, err := alloc.New(m, r.from, r.to)
		failed(t, err, 0, api.ErrArg)
		if a != nil {
			t.Errorf("New(%d, %d) is an allocator", r.from, r.to)
		}
	}
}

func TestNewWithoutMemory(t *testing.T) {
	for _, r := range []struct{ from, to int }{{0, 0}, {0, 5}, {3, 8}, {-1, 5}, {5, 4}} {
		a, err := alloc.New(nil, r.from, r.to)
		failed(t, err, 0, api.ErrArg)
		if a != nil {
			t.Errorf("New(nil, %d, %d) is an allocator", r.from, r.to)
		}
	}
}

// P3.1: Get

func TestExample(t *testing.T) {
	m, a := made(t, 30, 10, 20)
	gets(t, a, 4, 64, 10)
	gets(t, a, 6, 32, 14)
	getFails(t, a, 1, 64, api.ErrRoom)
	has(t, a, 0, alloc.Block{At: 10, N: 4, Width: 64}, alloc.Block{At: 14, N: 6, Width: 32})
	mapped(t, m, 0, 0, 0, 0, 0, 0, 0, 0, 0, 0, 64, 64, 64, 64, 32, 32, 32, 32, 32, 32, 0)
	fine(t, a.Put(10))
	gets(t, a, 2, 64, 10)
	has(t, a, 2, alloc.Block{At: 10, N: 2, Width: 64}, alloc.Block{At: 14, N: 6, Width: 32})
	mapped(t, m, 0, 0, 0, 0, 0, 0, 0, 0, 0, 0, 64, 64, 0, 0, 32, 32, 32, 32, 32, 32, 0)
}

func TestGetOfOtherLengthsAndWidths(t *testing.T) {
	_, roomy := made(t, 3*api.MaxBlock, 0, 3*api.MaxBlock)
	_, full := made(t, 1, 0, 1)
	gets(t, full, 1, 64, 0)
	for _, a := range []*alloc.Alloc{roomy, full} {
		used, widest := a.Used(), a.Widest()
		for _, n := range noLengths {
			for _, width := range append([]int{32, 64}, noWidths...) {
				getFails(t, a, n, width, api.ErrArg)
			}
		}
		for _, n := range []int{1, 2, api.MaxBlock} {
			for _, width := range noWidths {
				getFails(t, a, n, width, api.ErrArg)
			}
		}
		if a.Used() != used || a.Widest() != widest {
			t.Error("what was refused changed something")
		}
	}
}

func TestGetOfEachLength(t *testing.T) {
	for _, n := range []int{1, 2, 3, 100, api.MaxBlock - 1, api.MaxBlock} {
		for _, width := range []int{api.Narrow, api.Wide} {
			m, a := made(t, n+10, 5, 5+n)
			gets(t, a, n, width, 5)
			has(t, a, 0, alloc.Block{At: 5, N: n, Width: width})
			if m.There() != n || m.Width(4) != 0 || m.Width(5) != width || m.Width(uint64(4+n)) != width || m.Width(uint64(5+n)) != 0 {
				t.Errorf("Get(%d, %d) maps %d cells", n, width, m.There())
			}
			getFails(t, a, 1, width, api.ErrRoom)
			fine(t, a.Put(5))
			has(t, a, n)
			if n < api.MaxBlock {
				getFails(t, a, n+1, width, api.ErrRoom)
			}
			if m.There() != 0 || m.Count() != 0 {
				t.Errorf("%d cells and %d accesses in the end", m.There(), m.Count())
			}
		}
	}
}

// row is an allocator of the cells 2 to 1 + the sum of lengths, all in blocks of these lengths.
func row(t *testing.T, lengths ...int) (*mem.Mem, *alloc.Alloc) {
	t.Helper()
	sum := 0
	for _, n := range lengths {
		sum += n
	}
	m, a := made(t, sum+4, 2, 2+sum)
	at := 2
	for _, n := range lengths {
		gets(t, a, n, 64, at)
		at += n
	}
	return m, a
}

func TestGetTakesTheFirstRange(t *testing.T) {
	_, a := row(t, 1, 3, 2, 5, 1, 4, 3, 5)
	for _, at := range []int{3, 8, 14, 21} {
		fine(t, a.Put(at))
	}
	// Free: 3 to 5, 8 to 12, 14 to 17, 21 to 25.
	getFails(t, a, 6, 32, api.ErrRoom)
	gets(t, a, 4, 32, 8)
	gets(t, a, 4, 32, 14)
	gets(t, a, 2, 32, 3)
	gets(t, a, 5, 32, 21)
	getFails(t, a, 2, 32, api.ErrRoom)
	gets(t, a, 1, 32, 5)
	gets(t, a, 1, 32, 12)
	getFails(t, a, 1, 32, api.ErrRoom)
}

func TestGetWhenNothingIsFreeOrTooLittle(t *testing.T) {
	_, none := made(t, 8, 4, 4)
	getFails(t, none, 1, 64, api.ErrRoom)
	has(t, none, 0)
	_, last := made(t, 8, math.MaxInt, math.MaxInt)
	getFails(t, last, 1, 64, api.ErrRoom)
	m, a := made(t, 8, 2, 5)
	getFails(t, a, 4, 64, api.ErrRoom)
	getFails(t, a, api.MaxBlock, 64, api.ErrRoom)
	if m.There() != 0 {
		t.Errorf("%d cells", m.There())
	}
	has(t, a, 3)
	gets(t, a, 3, 64, 2)
}

func TestGetBeyondTheMemory(t *testing.T) {
	m, a := made(t, 10, 8, 20)
	at, err := a.Get(3, 64)
	failedBelow(t, err, 8, 8, api.ErrAddr)
	if at != 0 || m.There() != 0 {
		t.Errorf("%d, %d cells", at, m.There())
	}
	has(t, a, 12)
	getFails(t, a, 13, 64, api.ErrRoom)
	gets(t, a, 2, 32, 8)
	_, err = a.Get(1, 32)
	failedBelow(t, err, 10, 10, api.ErrAddr)
	has(t, a, 10, alloc.Block{At: 8, N: 2, Width: 32})

	_, far := made(t, 10, math.MaxInt-4, math.MaxInt)
	getFails(t, far, 5, 64, api.ErrRoom)
	_, err = far.Get(4, 64)
	failedBelow(t, err, math.MaxInt-4, math.MaxInt-4, api.ErrAddr)
	has(t, far, 4)
}

func TestGetOfCellsThatAreMappedAlready(t *testing.T) {
	m, a := made(t, 30, 10, 20)
	fine(t, m.Map(13, 1, 32))
	at, err := a.Get(4, 64)
	failedBelow(t, err, 10, 13, api.ErrBlock)
	if at != 0 || m.There() != 1 || m.Width(13) != 32 {
		t.Errorf("%d, %d cells", at, m.There())
	}
	has(t, a, 10)
	gets(t, a, 3, 64, 10)
	_, err = a.Get(1, 64)
	failedBelow(t, err, 13, 13, api.ErrBlock)
	failed(t, a.Put(13), 13, api.ErrBlock)
	has(t, a, 7, alloc.Block{At: 10, N: 3, Width: 64})
	fine(t, m.Unmap(13, 1))
	gets(t, a, 7, 64, 13)
	has(t, a, 0, alloc.Block{At: 10, N: 3, Width: 64}, alloc.Block{At: 13, N: 7, Width: 64})
}

// P3.1: Put

func TestPutWhereNoBlockBegins(t *testing.T) {
	m, a := made(t, 30, 10, 20)
	gets(t, a, 3, 64, 10)
	gets(t, a, 2, 64, 13)
	gets(t, a, 4, 32, 15)
	fine(t, a.Put(13))
	for _, at := range []int{math.MinInt, -10, -1, 0, 9, 11, 12, 13, 14, 16, 18, 19, 20, 30, 31, api.MaxCells, 1<<32 + 10, math.MaxInt} {
		failed(t, a.Put(at), at, api.ErrBlock)
	}
	has(t, a, 2, alloc.Block{At: 10, N: 3, Width: 64}, alloc.Block{At: 15, N: 4, Width: 32})
	mapped(t, m, 0, 0, 0, 0, 0, 0, 0, 0, 0, 0, 64, 64, 64, 0, 0, 32, 32, 32, 32, 0, 0)
	_, none := made(t, 5, 0, 5)
	failed(t, none.Put(0), 0, api.ErrBlock)
}

func TestPutOnlyOnce(t *testing.T) {
	_, a := made(t, 30, 10, 20)
	gets(t, a, 3, 64, 10)
	fine(t, a.Put(10))
	failed(t, a.Put(10), 10, api.ErrBlock)
	has(t, a, 10)
}

func TestPutOfCellsThatAreUnmappedAlready(t *testing.T) {
	m, a := made(t, 30, 10, 20)
	gets(t, a, 4, 64, 10)
	gets(t, a, 2, 32, 14)
	fine(t, m.Unmap(12, 1))
	failedBelow(t, a.Put(10), 10, 12, api.ErrBlock)
	has(t, a, 4, alloc.Block{At: 14, N: 2, Width: 32})
	mapped(t, m, 0, 0, 0, 0, 0, 0, 0, 0, 0, 0, 64, 64, 0, 64, 32, 32, 0)
	failed(t, a.Put(10), 10, api.ErrBlock)
	_, err := a.Get(1, 64)
	failedBelow(t, err, 10, 10, api.ErrBlock)
	fine(t, m.Unmap(10, 2))
	fine(t, m.Unmap(13, 1))
	gets(t, a, 4, 32, 10)
	fine(t, a.Put(14))
	has(t, a, 6, alloc.Block{At: 10, N: 4, Width: 32})
}

func TestPutInEachOrderJoinsTheRanges(t *testing.T) {
	for _, order := range [][]int{{0, 1, 2}, {0, 2, 1}, {1, 0, 2}, {1, 2, 0}, {2, 0, 1}, {2, 1, 0}} {
		m, a := row(t, 3, 4, 5)
		begins := []int{2, 5, 9}
		for _, i := range order {
			fine(t, a.Put(begins[i]))
		}
		has(t, a, 12)
		if m.There() != 0 {
			t.Errorf("%v: %d cells", order, m.There())
		}
		gets(t, a, 12, 32, 2)
	}
}

// P3.2

func TestWidestAmongSeveral(t *testing.T) {
	_, a := row(t, 2, 1, 4, 1, 3)
	for _, r := range []struct{ put, widest int }{{2, 2}, {10, 3}, {5, 4}, {4, 7}, {9, 11}} {
		fine(t, a.Put(r.put))
		if a.Widest() != r.widest {
			t.Errorf("after Put(%d), Widest is %d, not %d", r.put, a.Widest(), r.widest)
		}
	}
}

func TestBlocksInAscendingOrder(t *testing.T) {
	_, a := row(t, 1, 2, 3, 4)
	fine(t, a.Put(3))
	fine(t, a.Put(2))
	fine(t, a.Put(8))
	gets(t, a, 3, 32, 2)
	gets(t, a, 4, 64, 8)
	fine(t, a.Put(2))
	gets(t, a, 1, 64, 2)
	gets(t, a, 2, 32, 3)
	has(t, a, 0, alloc.Block{At: 2, N: 1, Width: 64}, alloc.Block{At: 3, N: 2, Width: 32}, alloc.Block{At: 5, N: 3, Width: 64}, alloc.Block{At: 8, N: 4, Width: 64})
}

// begins are the first cells of what an iterator shows.
func begins(l func(func(alloc.Block) bool)) []int {
	var at []int
	for b := range l {
		at = append(at, b.At)
	}
	return at
}

func TestBlocksOfEachTime(t *testing.T) {
	_, a := made(t, 30, 10, 20)
	blocks := a.Blocks()
	if got := begins(blocks); len(got) != 0 {
		t.Errorf("at first %v", got)
	}
	gets(t, a, 2, 64, 10)
	gets(t, a, 2, 64, 12)
	gets(t, a, 2, 64, 14)
	for range 2 {
		if got := begins(blocks); !slices.Equal(got, []int{10, 12, 14}) {
			t.Errorf("then %v", got)
		}
	}
	fine(t, a.Put(12))
	if got := begins(blocks); !slices.Equal(got, []int{10, 14}) {
		t.Errorf("in the end %v", got)
	}
}

func TestBlocksStoppedEarly(t *testing.T) {
	_, a := row(t, 1, 1, 1, 1)
	blocks := a.Blocks()
	for stop := range 4 {
		shown := 0
		for b := range blocks {
			if b.At != 2+shown {
				t.Errorf("%d instead of %d", b.At, 2+shown)
			}
			shown++
			if shown > stop {
				break
			}
		}
		if shown != stop+1 {
			t.Errorf("%d shown, not %d", shown, stop+1)
		}
	}
	inner := 0
	for range blocks {
		for range blocks {
			inner++
		}
	}
	if inner != 16 {
		t.Errorf("%d shown within each other, not 16", inner)
	}
	has(t, a, 0, alloc.Block{At: 2, N: 1, Width: 64}, alloc.Block{At: 3, N: 1, Width: 64}, alloc.Block{At: 4, N: 1, Width: 64}, alloc.Block{At: 5, N: 1, Width: 64})
}

func TestPutAndGetWhileBlocksAreShown(t *testing.T) {
	_, a := row(t, 2, 3, 2, 3)
	var shown []alloc.Block
	next := 2
	for b := range a.Blocks() {
		shown = append(shown, b)
		fine(t, a.Put(b.At))
		if b.N == 3 {
			gets(t, a, 1, 32, next)
			next++
		}
	}
	if want := []alloc.Block{{At: 2, N: 2, Width: 64}, {At: 4, N: 3, Width: 64}, {At: 7, N: 2, Width: 64}, {At: 9, N: 3, Width: 64}}; !slices.Equal(shown, want) {
		t.Errorf("%v", shown)
	}
	has(t, a, 8, alloc.Block{At: 2, N: 1, Width: 32}, alloc.Block{At: 3, N: 1, Width: 32})
}

// P3.3

// plain is an allocator that keeps, cell by cell, the block that the cell is in, or nil.
type plain struct {
	from  int
	cells []*alloc.Block
}

// room is the first index of n free cells, or -1.
func (p *plain) room(n int) int {
	for i := range len(p.cells) - n + 1 {
		if p.free(i, n) {
			return i
		}
	}
	return -1
}

func (p *plain) free(i, n int) bool {
	for _, b := range p.cells[i : i+n] {
		if b != nil {
			return false
		}
	}
	return true
}

// widest tries each length.
func (p *plain) widest() int {
	for n := len(p.cells); n > 0; n-- {
		if p.room(n) >= 0 {
			return n
		}
	}
	return 0
}

func (p *plain) blocks() []alloc.Block {
	var l []alloc.Block
	for i, b := range p.cells {
		if b != nil && b.At == p.from+i {
			l = append(l, *b)
		}
	}
	return l
}

func (p *plain) set(at, n int, b *alloc.Block) {
	for i := range n {
		p.cells[at-p.from+i] = b
	}
}

// get does the same in both.
func (p *plain) get(t *testing.T, a *alloc.Alloc, n, width int) {
	t.Helper()
	i := p.room(n)
	if i < 0 {
		getFails(t, a, n, width, api.ErrRoom)
		return
	}
	gets(t, a, n, width, p.from+i)
	p.set(p.from+i, n, &alloc.Block{At: p.from + i, N: n, Width: width})
}

// put does the same in both.
func (p *plain) put(t *testing.T, a *alloc.Alloc, at int) {
	t.Helper()
	b := p.cells[at-p.from]
	if b == nil || b.At != at {
		failed(t, a.Put(at), at, api.ErrBlock)
		return
	}
	fine(t, a.Put(at))
	p.set(at, b.N, nil)
}

// same tests that both have the same blocks, and that the memory has their cells and no others.
func same(t *testing.T, m *mem.Mem, a *alloc.Alloc, p *plain, cells int) {
	t.Helper()
	has(t, a, p.widest(), p.blocks()...)
	for at := range cells {
		want := 0
		if i := at - p.from; i >= 0 && i < len(p.cells) && p.cells[i] != nil {
			want = p.cells[i].Width
		}
		if got := m.Width(uint64(at)); got != want {
			t.Fatalf("Width(%d) is %d, not %d", at, got, want)
		}
	}
}

func TestLongLives(t *testing.T) {
	r := rand.New(rand.NewSource(5))
	for range 80 {
		from, length := r.Intn(5), r.Intn(40)
		cells := from + length + 1 + r.Intn(3)
		m, a := made(t, cells, from, from+length)
		p := &plain{from: from, cells: make([]*alloc.Block, length)}
		most := 1 + r.Intn(10)
		for range 250 {
			switch {
			case length > 0 && r.Intn(5) < 3:
				p.put(t, a, from+r.Intn(length))
			default:
				p.get(t, a, 1+r.Intn(most), 32+32*r.Intn(2))
			}
			same(t, m, a, p, cells)
			if t.Failed() {
				t.FailNow()
			}
		}
	}
}

func TestBlocksKeepWhatIsInThem(t *testing.T) {
	m, a := row(t, 3, 3, 3)
	for at := range uint64(9) {
		fine(t, m.Store(2+at, 100+at))
	}
	fine(t, a.Put(5))
	gets(t, a, 2, 32, 5)
	for i, want := range []uint64{100, 101, 102, 0, 0} {
		if got, err := m.Load(uint64(2 + i)); err != nil || got != want {
			t.Errorf("cell %d has %d, %v, not %d", 2+i, got, err, want)
		}
	}
	if _, err := m.Load(7); !errors.Is(err, api.ErrAddr) {
		t.Errorf("cell 7 is there: %v", err)
	}
	for i, want := range []uint64{106, 107, 108} {
		if got, err := m.Load(uint64(8 + i)); err != nil || got != want {
			t.Errorf("cell %d has %d, %v, not %d", 8+i, got, err, want)
		}
	}
}

func TestAllCellsOfTheGreatestMemory(t *testing.T) {
	m, a := made(t, api.MaxCells, 0, api.MaxCells)
	for at := 0; at < api.MaxCells; at += api.MaxBlock {
		gets(t, a, api.MaxBlock, 64, at)
	}
	getFails(t, a, 1, 32, api.ErrRoom)
	if m.There() != api.MaxCells || a.Used() != api.MaxCells || a.Widest() != 0 {
		t.Errorf("%d cells, %d used", m.There(), a.Used())
	}
	for at := 0; at < api.MaxCells; at += api.MaxBlock {
		fine(t, a.Put(at))
	}
	has(t, a, api.MaxCells)
	if m.There() != 0 {
		t.Errorf("%d cells", m.There())
	}
}

// R2, R4

func TestTwoAllocatorsHaveNothingInCommon(t *testing.T) {
	m := memory(t, 20)
	a, b := over(t, m, 0, 10), over(t, m, 10, 20)
	gets(t, a, 4, 64, 0)
	gets(t, b, 2, 32, 10)
	gets(t, a, 6, 64, 4)
	getFails(t, a, 1, 64, api.ErrRoom)
	failed(t, a.Put(10), 10, api.ErrBlock)
	failed(t, b.Put(0), 0, api.ErrBlock)
	has(t, b, 8, alloc.Block{At: 10, N: 2, Width: 32})
	fine(t, a.Put(0))
	has(t, a, 4, alloc.Block{At: 4, N: 6, Width: 64})
	has(t, b, 8, alloc.Block{At: 10, N: 2, Width: 32})
}

func TestErrorsAreNotShared(t *testing.T) {
	_, a := made(t, 20, 10, 20)
	first, second := a.Put(13), a.Put(14)
	failed(t, first, 13, api.ErrBlock)
	failed(t, second, 14, api.ErrBlock)
	if first == second {
		t.Error("one error for both")
	}
}
