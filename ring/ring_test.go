package ring_test

import (
	"errors"
	"iter"
	"math"
	"math/rand"
	"slices"
	"testing"

	"distaff/api"
	"distaff/ring"
)

// edges are elements at which something might turn over.
var edges = []uint64{0, 1, 2, 1<<31 - 1, 1 << 31, 1<<32 - 1, 1 << 32, 1<<32 + 1, 1<<53 + 1, 1<<63 - 1, 1 << 63, 1<<63 + 1, math.MaxUint64 - 1, math.MaxUint64}

// most is the greatest capacity of the chapter.
const most = 4096

// made is an empty queue of that capacity.
func made(t *testing.T, capacity int) *ring.Ring {
	t.Helper()
	r, err := ring.New(capacity)
	if err != nil || r == nil {
		t.Fatalf("New(%d): %v, %v", capacity, r, err)
	}
	return r
}

// turned is an empty queue through which so many elements have gone.
func turned(t *testing.T, capacity, by int) *ring.Ring {
	t.Helper()
	r := made(t, capacity)
	for i := range by {
		v := 900 + uint64(i)
		puts(t, r, v)
		takes(t, r, v)
	}
	return r
}

// failed tests that err has the form of R2 and is of that kind itself.
func failed(t *testing.T, err error, kind api.Err) {
	t.Helper()
	var at *api.At
	if !errors.As(err, &at) || error(at) != err || at.Layer != "ring" || at.N != 0 || at.Err != kind || !errors.Is(err, kind) {
		t.Errorf("the error is %#v, not %v", err, kind)
	}
}

// puts tests that Put refuses none of these.
func puts(t *testing.T, r *ring.Ring, values ...uint64) {
	t.Helper()
	for _, v := range values {
		if err := r.Put(v); err != nil {
			t.Errorf("Put(%d): %v", v, err)
		}
	}
}

// putFails tests that Put refuses for want of room, and changes nothing that can be asked.
func putFails(t *testing.T, r *ring.Ring, v uint64) {
	t.Helper()
	before := elements(t, r)
	failed(t, r.Put(v), api.ErrRoom)
	has(t, r, before...)
}

// takes tests that these are what Take returns, one after the other.
func takes(t *testing.T, r *ring.Ring, want ...uint64) {
	t.Helper()
	for _, w := range want {
		if v, is := r.Take(); v != w || !is {
			t.Errorf("Take is %d, %v, not %d", v, is, w)
		}
	}
}

// takesNone tests that Take finds nothing.
func takesNone(t *testing.T, r *ring.Ring) {
	t.Helper()
	if v, is := r.Take(); v != 0 || is {
		t.Errorf("Take is %d, %v, not 0, false", v, is)
	}
	has(t, r)
}

// drops tests that Drop finds v.
func drops(t *testing.T, r *ring.Ring, v uint64) {
	t.Helper()
	if !r.Drop(v) {
		t.Errorf("Drop(%d) finds none", v)
	}
}

// dropsNone tests that Drop finds none of these, and changes nothing that can be asked.
func dropsNone(t *testing.T, r *ring.Ring, values ...uint64) {
	t.Helper()
	before := elements(t, r)
	for _, v := range values {
		if r.Drop(v) {
			t.Errorf("Drop(%d) finds one in %d", v, before)
		}
	}
	has(t, r, before...)
}

// shown are the elements that an iteration shows; it tests their positions.
func shown(t *testing.T, all iter.Seq2[int, uint64]) []uint64 {
	t.Helper()
	var l []uint64
	for i, v := range all {
		if i != len(l) {
			t.Errorf("%d has the position %d, not %d", v, i, len(l))
		}
		l = append(l, v)
	}
	return l
}

// elements are those that All shows.
func elements(t *testing.T, r *ring.Ring) []uint64 {
	t.Helper()
	return shown(t, r.All())
}

// has tests which elements there are, in order, by Len and All.
func has(t *testing.T, r *ring.Ring, want ...uint64) {
	t.Helper()
	if r.Len() != len(want) {
		t.Errorf("Len is %d, not %d", r.Len(), len(want))
	}
	if got := elements(t, r); !slices.Equal(got, want) {
		t.Errorf("All shows %d, not %d", got, want)
	}
}

// numbers are so many elements from a first one on.
func numbers(first uint64, n int) []uint64 {
	var l []uint64
	for i := range n {
		l = append(l, first+uint64(i))
	}
	return l
}

// P9.1: New

func TestExample(t *testing.T) {
	r := made(t, 2)
	puts(t, r, 5, 6)
	putFails(t, r, 7)
	takes(t, r, 5)
	has(t, r, 6)
}

func TestNewOfWrongCapacities(t *testing.T) {
	for _, n := range []int{math.MinInt, math.MinInt + 1, -1 << 32, -most, -1, 0, most + 1, most + 2, 2 * most, 1 << 16, 1 << 32, 1<<32 + 1, 1<<32 + most, 1 << 62, math.MaxInt} {
		r, err := ring.New(n)
		failed(t, err, api.ErrArg)
		if r != nil {
			t.Errorf("New(%d) fails with a queue", n)
		}
	}
}

func TestEachCapacity(t *testing.T) {
	for n := 1; n <= most; n++ {
		if n > 70 && n < most-3 && n%97 != 0 {
			continue
		}
		r := made(t, n)
		has(t, r)
		puts(t, r, numbers(1, n-1)...)
		has(t, r, numbers(1, n-1)...)
		puts(t, r, uint64(n))
		putFails(t, r, 1)
		has(t, r, numbers(1, n)...)
		takes(t, r, numbers(1, n)...)
		takesNone(t, r)
		if t.Failed() {
			t.Fatalf("of %d", n)
		}
	}
}

func TestEmpty(t *testing.T) {
	for by := range 4 {
		r := turned(t, 3, by)
		has(t, r)
		takesNone(t, r)
		// What has gone through is not there any more, nor is what has never been there.
		dropsNone(t, r, edges...)
		dropsNone(t, r, 900, 901, 902, 903)
		puts(t, r, 8)
		takes(t, r, 8)
		takesNone(t, r)
	}
}

// P9.1: Put, Take

func TestPutBeyondTheCapacity(t *testing.T) {
	for n := 1; n <= 5; n++ {
		for by := range n + 1 {
			r := turned(t, n, by)
			puts(t, r, numbers(10, n)...)
			for _, v := range edges {
				putFails(t, r, v)
			}
			putFails(t, r, 10)
			takes(t, r, 10)
			puts(t, r, 50)
			putFails(t, r, 51)
			has(t, r, append(numbers(11, n-1), 50)...)
			takes(t, r, append(numbers(11, n-1), 50)...)
			takesNone(t, r)
		}
	}
}

func TestADropMakesRoom(t *testing.T) {
	for by := range 4 {
		for gone := range uint64(3) {
			r := turned(t, 3, by)
			puts(t, r, 0, 1, 2)
			drops(t, r, gone)
			puts(t, r, 3)
			putFails(t, r, 4)
			has(t, r, slices.DeleteFunc(numbers(0, 4), func(v uint64) bool { return v == gone })...)
		}
	}
}

func TestEachElement(t *testing.T) {
	r := made(t, 3)
	for _, v := range edges {
		puts(t, r, v, ^v, v)
		has(t, r, v, ^v, v)
		drops(t, r, ^v)
		dropsNone(t, r, ^v)
		takes(t, r, v)
		drops(t, r, v)
		dropsNone(t, r, v)
		takesNone(t, r)
	}
}

func TestOneElementAfterTheOther(t *testing.T) {
	for n := 1; n <= 6; n++ {
		for filled := range n {
			r := made(t, n)
			puts(t, r, numbers(0, filled)...)
			for v := range uint64(50) {
				puts(t, r, v+uint64(filled))
				has(t, r, numbers(v, filled+1)...)
				takes(t, r, v)
			}
			has(t, r, numbers(50, filled)...)
		}
	}
}

// P9.1: Drop

func TestDropOfEachElement(t *testing.T) {
	for n := 1; n <= 6; n++ {
		for by := range n {
			for filled := 1; filled <= n; filled++ {
				for gone := range filled {
					r := turned(t, n, by)
					puts(t, r, numbers(20, filled)...)
					drops(t, r, 20+uint64(gone))
					want := slices.Delete(numbers(20, filled), gone, gone+1)
					has(t, r, want...)
					dropsNone(t, r, 20+uint64(gone))
					puts(t, r, 70)
					takes(t, r, append(want, 70)...)
					takesNone(t, r)
					if t.Failed() {
						t.Fatalf("without %d of %d, of %d, turned by %d", gone, filled, n, by)
					}
				}
			}
		}
	}
}

func TestDropOfOthers(t *testing.T) {
	for by := range 6 {
		r := turned(t, 5, by)
		puts(t, r, 3, 4, 5)
		dropsNone(t, r, 0, 1, 2, 6, 900, 901, 902, 903, 904, 905, 1<<32+3, 1<<63+3, math.MaxUint64-3)
		takes(t, r, 3)
		dropsNone(t, r, 3)
		drops(t, r, 5)
		dropsNone(t, r, 3, 5)
		takes(t, r, 4)
		takesNone(t, r)
	}
}

func TestDropOfTheFirstOfEqualElements(t *testing.T) {
	for by := range 7 {
		r := turned(t, 6, by)
		puts(t, r, 7, 1, 7, 2, 7, 3)
		drops(t, r, 7)
		has(t, r, 1, 7, 2, 7, 3)
		drops(t, r, 7)
		has(t, r, 1, 2, 7, 3)
		puts(t, r, 7)
		drops(t, r, 7)
		has(t, r, 1, 2, 3, 7)
		drops(t, r, 7)
		dropsNone(t, r, 7)
		has(t, r, 1, 2, 3)
	}
	r := made(t, 4)
	puts(t, r, 9, 9, 9, 9)
	for left := 4; left > 0; left-- {
		drops(t, r, 9)
		has(t, r, []uint64{9, 9, 9, 9}[:left-1]...)
	}
	dropsNone(t, r, 9)
}

// P9.1: Len, All

func TestLenAndAllChangeNothing(t *testing.T) {
	r := turned(t, 3, 2)
	puts(t, r, 4, 5)
	for range 3 {
		has(t, r, 4, 5)
	}
	takes(t, r, 4, 5)
}

func TestAllOfEachTime(t *testing.T) {
	r := turned(t, 3, 2)
	all := r.All()
	sees := func(want ...uint64) {
		t.Helper()
		for range 2 {
			if got := shown(t, all); !slices.Equal(got, want) {
				t.Errorf("%d, not %d", got, want)
			}
		}
	}
	sees()
	puts(t, r, 1, 2, 3)
	sees(1, 2, 3)
	drops(t, r, 2)
	sees(1, 3)
	takes(t, r, 1)
	puts(t, r, 4, 5)
	sees(3, 4, 5)
	takes(t, r, 3, 4, 5)
	sees()
}

func TestAllStoppedEarly(t *testing.T) {
	for by := range 6 {
		r := turned(t, 5, by)
		puts(t, r, 10, 11, 12, 13, 14)
		all := r.All()
		for stop := range 5 {
			n := 0
			for i, v := range all {
				if i != n || v != uint64(10+n) {
					t.Errorf("%d, %d as number %d", i, v, n)
				}
				n++
				if i == stop {
					break
				}
			}
			if n != stop+1 {
				t.Errorf("%d shown, not %d", n, stop+1)
			}
		}
		has(t, r, 10, 11, 12, 13, 14)
	}
}

func TestAllWithinAll(t *testing.T) {
	r := turned(t, 4, 3)
	puts(t, r, 1, 2, 3)
	all := r.All()
	var got []uint64
	for i, v := range all {
		for j, w := range all {
			if j > i {
				break
			}
			got = append(got, 10*v+w)
		}
	}
	if !slices.Equal(got, []uint64{11, 21, 22, 31, 32, 33}) {
		t.Errorf("%d shown within each other", got)
	}
}

func TestAllWhateverItsBodyDoes(t *testing.T) {
	for by := range 5 {
		r := turned(t, 4, by)
		puts(t, r, 1, 2, 3)
		var got []uint64
		for _, v := range r.All() {
			got = append(got, v)
			drops(t, r, v)
			puts(t, r, v+10)
		}
		has(t, r, 11, 12, 13)
		for _, v := range r.All() {
			got = append(got, v)
			takes(t, r, v)
		}
		has(t, r)
		if want := []uint64{1, 2, 3, 11, 12, 13}; !slices.Equal(got, want) {
			t.Errorf("%d shown, not %d", got, want)
		}
	}
}

// P9.2

func TestTheGreatestQueue(t *testing.T) {
	r := turned(t, most, most/2+1)
	puts(t, r, numbers(0, most)...)
	putFails(t, r, most)
	for v := uint64(0); v < most; v += 3 {
		drops(t, r, v)
	}
	for v := uint64(0); v < most; v++ {
		if v%3 != 0 {
			takes(t, r, v)
		}
	}
	takesNone(t, r)
}

// pair is a queue and a list of what must be in it.
type pair struct {
	r        *ring.Ring
	capacity int
	l        []uint64
}

func (p *pair) put(t *testing.T, v uint64) {
	t.Helper()
	if len(p.l) == p.capacity {
		failed(t, p.r.Put(v), api.ErrRoom)
		return
	}
	puts(t, p.r, v)
	p.l = append(p.l, v)
}

func (p *pair) take(t *testing.T) {
	t.Helper()
	if len(p.l) == 0 {
		takesNone(t, p.r)
		return
	}
	takes(t, p.r, p.l[0])
	p.l = p.l[1:]
}

func (p *pair) drop(t *testing.T, v uint64) {
	t.Helper()
	i := slices.Index(p.l, v)
	if got := p.r.Drop(v); got != (i >= 0) {
		t.Errorf("Drop(%d) is %v in %d", v, got, p.l)
	}
	if i >= 0 {
		p.l = slices.Delete(p.l, i, i+1)
	}
}

func TestLongLives(t *testing.T) {
	random := rand.New(rand.NewSource(9))
	for range 300 {
		capacity := 1 + random.Intn(20)
		p := &pair{r: made(t, capacity), capacity: capacity}
		span, calm := 1+random.Intn(30), random.Intn(10)
		for range 400 {
			v := uint64(random.Intn(span))
			switch n := random.Intn(20); {
			case n < 6+calm:
				p.put(t, v)
			case n < 14:
				p.take(t)
			case n < 15:
				p.put(t, edges[random.Intn(len(edges))])
			default:
				p.drop(t, v)
			}
			has(t, p.r, p.l...)
			if t.Failed() {
				t.FailNow()
			}
		}
	}
}

func TestTakenInTheOrderOfPuts(t *testing.T) {
	random := rand.New(rand.NewSource(10))
	r := made(t, 37)
	put, taken := uint64(0), uint64(0)
	for taken < 50000 {
		for range random.Intn(40) {
			if r.Put(put) == nil {
				put++
			}
		}
		for range random.Intn(40) {
			v, is := r.Take()
			if is != (taken < put) || is && v != taken {
				t.Fatalf("Take is %d, %v after %d of %d", v, is, taken, put)
			}
			if is {
				taken++
			}
		}
	}
}

// R4

func TestTwoQueuesHaveNothingInCommon(t *testing.T) {
	a, b := made(t, 2), made(t, 2)
	puts(t, a, 1, 2)
	has(t, b)
	puts(t, b, 3, 1)
	drops(t, b, 1)
	has(t, a, 1, 2)
	takes(t, a, 1)
	has(t, b, 3)
	puts(t, a, 4)
	putFails(t, a, 5)
	puts(t, b, 6)
	has(t, a, 2, 4)
	has(t, b, 3, 6)
}
