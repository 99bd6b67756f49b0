package heap_test

import (
	"cmp"
	"math"
	"math/rand"
	"slices"
	"testing"

	"distaff/api"
	"distaff/heap"
)

// entry is an item as All shows it, or with its handle.
type entry struct {
	deadline, what uint64
	handle         int
}

// edges are deadlines and times at which something might turn over.
var edges = []uint64{0, 1, 2, 1<<31 - 1, 1 << 31, 1<<32 - 1, 1 << 32, 1<<53 + 1, 1<<63 - 1, 1 << 63, 1<<63 + 1, math.MaxUint64 - 1, math.MaxUint64}

// puts tests that Put returns that handle.
func puts(t *testing.T, h *heap.Heap, deadline, what uint64, want int) {
	t.Helper()
	if got := h.Put(deadline, what); got != want {
		t.Errorf("Put(%d, %d) is %d, not %d", deadline, what, got, want)
	}
}

// pops tests that Pop removes an item with that what.
func pops(t *testing.T, h *heap.Heap, now, want uint64) {
	t.Helper()
	if what, is := h.Pop(now); what != want || !is {
		t.Errorf("Pop(%d) is %d, %v, not %d", now, what, is, want)
	}
}

// popsNone tests that Pop removes nothing.
func popsNone(t *testing.T, h *heap.Heap, now uint64) {
	t.Helper()
	before := h.Len()
	if what, is := h.Pop(now); what != 0 || is {
		t.Errorf("Pop(%d) is %d, %v, not 0, false", now, what, is)
	}
	if h.Len() != before {
		t.Errorf("Pop(%d) without an item leaves %d of %d", now, h.Len(), before)
	}
}

// drops tests that Drop removes an item with that what.
func drops(t *testing.T, h *heap.Heap, handle int, want uint64) {
	t.Helper()
	if what, is := h.Drop(handle); what != want || !is {
		t.Errorf("Drop(%d) is %d, %v, not %d", handle, what, is, want)
	}
}

// dropsNone tests that Drop removes nothing.
func dropsNone(t *testing.T, h *heap.Heap, handles ...int) {
	t.Helper()
	before := h.Len()
	for _, handle := range handles {
		if what, is := h.Drop(handle); what != 0 || is {
			t.Errorf("Drop(%d) is %d, %v, not 0, false", handle, what, is)
		}
	}
	if h.Len() != before {
		t.Errorf("Drop without an item leaves %d of %d", h.Len(), before)
	}
}

// shown are the deadlines and whats that an iteration shows.
func shown(all func(func(uint64, uint64) bool)) []entry {
	var l []entry
	for deadline, what := range all {
		l = append(l, entry{deadline: deadline, what: what})
	}
	return l
}

// has tests which items there are, in order, by Len, First and All.
func has(t *testing.T, h *heap.Heap, want ...entry) {
	t.Helper()
	if h.Len() != len(want) {
		t.Errorf("Len is %d, not %d", h.Len(), len(want))
	}
	if got := shown(h.All()); !slices.Equal(got, want) {
		t.Errorf("All shows %v, not %v", got, want)
	}
	first := entry{}
	if len(want) > 0 {
		first = want[0]
	}
	if deadline, what, is := h.First(); deadline != first.deadline || what != first.what || is != (len(want) > 0) {
		t.Errorf("First is %d, %d, %v, not %v", deadline, what, is, first)
	}
}

// at is an entry as All shows it.
func at(deadline, what uint64) entry { return entry{deadline: deadline, what: what} }

// P7.1

func TestExample(t *testing.T) {
	h := heap.New()
	puts(t, h, 5, 70, 1)
	puts(t, h, 3, 71, 2)
	puts(t, h, 3, 72, 3)
	has(t, h, at(3, 71), at(3, 72), at(5, 70))
	pops(t, h, 3, 71)
	pops(t, h, 3, 72)
	popsNone(t, h, 4)
	has(t, h, at(5, 70))
}

func TestEmpty(t *testing.T) {
	h := heap.New()
	for range 2 {
		has(t, h)
		for _, now := range edges {
			popsNone(t, h, now)
		}
		dropsNone(t, h, math.MinInt, -1, 0, 1, 2, math.MaxInt)
		// Empty once more, after items.
		h.Put(0, 5)
		h.Put(4, 6)
		h.Pop(0)
		h.Pop(4)
		dropsNone(t, h, 3, 4)
	}
}

func TestHandlesGoOn(t *testing.T) {
	h := heap.New()
	for handle := 1; handle <= 30; handle += 3 {
		puts(t, h, 9, 1, handle)
		puts(t, h, 9, 1, handle+1)
		drops(t, h, handle+1, 1)
		puts(t, h, 0, 2, handle+2)
		pops(t, h, 0, 2)
		dropsNone(t, h, handle+1, handle+2, handle+3)
	}
	for handle := 1; handle <= 30; handle += 3 {
		drops(t, h, handle, 1)
	}
	has(t, h)
	puts(t, h, 0, 0, 31)
}

func TestEachDeadline(t *testing.T) {
	for i, deadline := range edges {
		for j, now := range edges {
			h := heap.New()
			puts(t, h, deadline, 8, 1)
			if j < i {
				popsNone(t, h, now)
				has(t, h, at(deadline, 8))
			} else {
				pops(t, h, now, 8)
				has(t, h)
			}
		}
	}
}

func TestDeadlinesAreOrderedWithoutSign(t *testing.T) {
	h := heap.New()
	var want []entry
	for i := range edges {
		h.Put(edges[len(edges)-1-i], uint64(i))
		want = append(want, at(edges[i], uint64(len(edges)-1-i)))
	}
	has(t, h, want...)
	for _, e := range want {
		if e.deadline > 0 {
			popsNone(t, h, e.deadline-1)
		}
		pops(t, h, e.deadline, e.what)
	}
	has(t, h)
}

func TestForeverIsADeadlineAsOthersAre(t *testing.T) {
	h := heap.New()
	puts(t, h, api.Forever, 3, 1)
	popsNone(t, h, api.Forever-1)
	pops(t, h, api.Forever, 3)
}

func TestEachWhat(t *testing.T) {
	h := heap.New()
	for i, what := range edges {
		puts(t, h, 1, what, 2*i+1)
		puts(t, h, 1, what, 2*i+2)
	}
	for i, what := range edges {
		drops(t, h, 2*i+2, what)
		pops(t, h, 1, what)
	}
	has(t, h)
}

func TestEqualDeadlinesInTheOrderOfPuts(t *testing.T) {
	for n := range 40 {
		h := heap.New()
		var want []entry
		for i := range n {
			what := uint64(1000 - i*7%11)
			h.Put(6, what)
			want = append(want, at(6, what))
		}
		has(t, h, want...)
		for i := range n {
			pops(t, h, 6, want[i].what)
		}
	}
}

func TestFirstAndAllRemoveNothing(t *testing.T) {
	h := heap.New()
	h.Put(2, 20)
	h.Put(1, 10)
	for range 3 {
		has(t, h, at(1, 10), at(2, 20))
	}
	drops(t, h, 2, 10)
	drops(t, h, 1, 20)
}

func TestPopBeforeTheFirstDeadline(t *testing.T) {
	h := heap.New()
	for _, deadline := range []uint64{9, 7, 8, 7} {
		h.Put(deadline, 10*deadline)
	}
	for now := range uint64(7) {
		popsNone(t, h, now)
	}
	has(t, h, at(7, 70), at(7, 70), at(8, 80), at(9, 90))
	pops(t, h, 7, 70)
	pops(t, h, 100, 70)
	popsNone(t, h, 7)
	pops(t, h, 8, 80)
	popsNone(t, h, 8)
	pops(t, h, math.MaxUint64, 90)
	popsNone(t, h, math.MaxUint64)
}

func TestDropOfOtherHandles(t *testing.T) {
	h := heap.New()
	h.Put(4, 40)
	h.Put(3, 30)
	h.Put(5, 50)
	dropsNone(t, h, math.MinInt, -3, -2, -1, 0, 4, 5, 1<<32, 1<<32+1, 1<<32+3, 1<<62, math.MaxInt)
	has(t, h, at(3, 30), at(4, 40), at(5, 50))
	drops(t, h, 1, 40)
	dropsNone(t, h, 1)
	pops(t, h, 3, 30)
	dropsNone(t, h, 2, 1)
	has(t, h, at(5, 50))
}

func TestDropOfEachItem(t *testing.T) {
	for n := 1; n <= 20; n++ {
		for handle := 1; handle <= n; handle++ {
			h := heap.New()
			var want []entry
			for i := range n {
				e := entry{deadline: uint64(i * 7 % 5), what: uint64(i), handle: i + 1}
				puts(t, h, e.deadline, e.what, e.handle)
				want = append(want, e)
			}
			drops(t, h, handle, uint64(handle-1))
			want = slices.Delete(want, handle-1, handle)
			popsAll(t, h, want)
			if t.Failed() {
				t.Fatalf("without %d of %d", handle, n)
			}
		}
	}
}

// popsAll tests that these are the items, by All and by popping them one after the other; none has a handle any more then.
func popsAll(t *testing.T, h *heap.Heap, want []entry) {
	t.Helper()
	want = ordered(want)
	has(t, h, plainly(want)...)
	for _, e := range want {
		if e.deadline > 0 {
			popsNone(t, h, e.deadline-1)
		}
		pops(t, h, e.deadline, e.what)
		dropsNone(t, h, e.handle)
	}
	has(t, h)
}

// ordered are the items in the order of P7.2.
func ordered(l []entry) []entry {
	l = slices.Clone(l)
	slices.SortFunc(l, func(a, b entry) int {
		return cmp.Or(cmp.Compare(a.deadline, b.deadline), cmp.Compare(a.handle, b.handle))
	})
	return l
}

// plainly are the items without their handles.
func plainly(l []entry) []entry {
	l = slices.Clone(l)
	for i := range l {
		l[i].handle = 0
	}
	return l
}

func TestAllOfEachTime(t *testing.T) {
	h := heap.New()
	all := h.All()
	if got := shown(all); len(got) != 0 {
		t.Errorf("at first %v", got)
	}
	h.Put(4, 1)
	h.Put(2, 2)
	h.Put(3, 3)
	for range 2 {
		if got := shown(all); !slices.Equal(got, []entry{at(2, 2), at(3, 3), at(4, 1)}) {
			t.Errorf("then %v", got)
		}
	}
	h.Drop(3)
	h.Put(1, 5)
	if got := shown(all); !slices.Equal(got, []entry{at(1, 5), at(2, 2), at(4, 1)}) {
		t.Errorf("in the end %v", got)
	}
}

func TestAllStoppedEarly(t *testing.T) {
	h := heap.New()
	for i := range uint64(5) {
		h.Put(5-i, i)
	}
	all := h.All()
	for stop := range 5 {
		n := 0
		for deadline, what := range all {
			n++
			if deadline != uint64(n) || what != uint64(5-n) {
				t.Errorf("%d, %d as number %d", deadline, what, n)
			}
			if n > stop {
				break
			}
		}
		if n != stop+1 {
			t.Errorf("%d shown, not %d", n, stop+1)
		}
	}
	inner := 0
	for range all {
		for range all {
			inner++
		}
	}
	if inner != 25 {
		t.Errorf("%d shown within each other, not 25", inner)
	}
	has(t, h, at(1, 4), at(2, 3), at(3, 2), at(4, 1), at(5, 0))
}

func TestAllEndsWhateverItsBodyDoes(t *testing.T) {
	h := heap.New()
	for i := range uint64(20) {
		h.Put(i%3, i)
	}
	n := 0
	for range h.All() {
		h.Pop(math.MaxUint64)
		h.Drop(20 - n)
		if n++; n > 1000 {
			t.Fatal("it goes on and on")
		}
	}
	h.Put(1, 1)
	n = 0
	for range h.All() {
		h.Put(2, 2)
		if n++; n > 1000 {
			t.Fatal("it goes on and on")
		}
	}
	if n == 0 {
		t.Error("nothing is shown")
	}
}

// P7.2

// each calls what with all lists of n numbers below most.
func each(n int, most uint64, what func([]uint64)) {
	l := make([]uint64, n)
	for {
		what(l)
		i := 0
		for ; i < n && l[i] == most-1; i++ {
			l[i] = 0
		}
		if i == n {
			return
		}
		l[i]++
	}
}

func TestAllSmallQueuesWithoutAnyTwo(t *testing.T) {
	for n := range 7 {
		each(n, 4, func(deadlines []uint64) {
			for first := 0; first <= n; first++ {
				without(t, deadlines, first, (first*5+3)%(n+1))
			}
		})
		if t.Failed() {
			t.Fatalf("of %d", n)
		}
	}
}

// without tests a queue with these deadlines from which two handles have been dropped; 0 is none.
func without(t *testing.T, deadlines []uint64, first, second int) {
	t.Helper()
	h := heap.New()
	var want []entry
	for i, deadline := range deadlines {
		e := entry{deadline: deadline, what: uint64(100 + i), handle: i + 1}
		puts(t, h, e.deadline, e.what, e.handle)
		want = append(want, e)
	}
	for _, handle := range []int{first, second} {
		i := slices.IndexFunc(want, func(e entry) bool { return e.handle == handle })
		if i < 0 {
			dropsNone(t, h, handle)
			continue
		}
		drops(t, h, handle, want[i].what)
		want = slices.Delete(want, i, i+1)
	}
	popsAll(t, h, want)
}

// pair is a heap and a list of the same items, in no order.
type pair struct {
	h     *heap.Heap
	items []entry
	last  int
}

func (p *pair) put(t *testing.T, deadline, what uint64) {
	t.Helper()
	p.last++
	puts(t, p.h, deadline, what, p.last)
	p.items = append(p.items, entry{deadline, what, p.last})
}

func (p *pair) drop(t *testing.T, handle int) {
	t.Helper()
	i := slices.IndexFunc(p.items, func(e entry) bool { return e.handle == handle })
	if i < 0 {
		dropsNone(t, p.h, handle)
		return
	}
	drops(t, p.h, handle, p.items[i].what)
	p.items = slices.Delete(p.items, i, i+1)
}

func (p *pair) pop(t *testing.T, now uint64) {
	t.Helper()
	l := ordered(p.items)
	if len(l) == 0 || l[0].deadline > now {
		popsNone(t, p.h, now)
		return
	}
	pops(t, p.h, now, l[0].what)
	p.items = slices.DeleteFunc(p.items, func(e entry) bool { return e.handle == l[0].handle })
}

func TestLongLives(t *testing.T) {
	r := rand.New(rand.NewSource(7))
	for range 150 {
		p := &pair{h: heap.New()}
		size, span := 1+r.Intn(60), 1+r.Intn(40)
		for range 400 {
			switch n := r.Intn(10); {
			case n < 5 && len(p.items) < size:
				p.put(t, uint64(r.Intn(span)), r.Uint64())
			case n < 8:
				p.drop(t, r.Intn(p.last+2))
			default:
				p.pop(t, uint64(r.Intn(span)))
			}
			has(t, p.h, plainly(ordered(p.items))...)
			if t.Failed() {
				t.FailNow()
			}
		}
		popsAll(t, p.h, p.items)
	}
}

func TestManyItems(t *testing.T) {
	const n = 100000
	for _, deadline := range []func(i int) uint64{
		func(i int) uint64 { return uint64(i) },
		func(i int) uint64 { return uint64(n - i) },
		func(i int) uint64 { return 3 },
		func(i int) uint64 { return uint64(i * 7919 % 1000) },
	} {
		h := heap.New()
		for i := range n {
			h.Put(deadline(i), uint64(i))
		}
		for i := 0; i < n; i += 2 {
			drops(t, h, i+1, uint64(i))
		}
		was, wasWhat := uint64(0), uint64(0)
		for i := range n / 2 {
			now, _, _ := h.First()
			what, is := h.Pop(now)
			if !is || deadline(int(what)) != now || now < was || i > 0 && now == was && what <= wasWhat {
				t.Fatalf("%d of %d after %d of %d", what, now, wasWhat, was)
			}
			was, wasWhat = now, what
		}
		has(t, h)
		puts(t, h, 0, 0, n+1)
	}
}

// R4

func TestTwoHeapsHaveNothingInCommon(t *testing.T) {
	a, b := heap.New(), heap.New()
	puts(t, a, 5, 1, 1)
	puts(t, a, 4, 2, 2)
	puts(t, b, 4, 3, 1)
	drops(t, a, 1, 1)
	has(t, b, at(4, 3))
	pops(t, b, 4, 3)
	has(t, a, at(4, 2))
	puts(t, b, 9, 4, 2)
	drops(t, b, 2, 4)
	has(t, a, at(4, 2))
	has(t, b)
}
