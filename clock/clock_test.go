package clock_test

import (
	"errors"
	"math"
	"math/big"
	"math/rand"
	"slices"
	"testing"

	"distaff/api"
	"distaff/clock"
)

// edges are deadlines, ids and times at which something might turn over.
var edges = []uint64{0, 1, 2, 3, 1<<31 - 1, 1 << 31, 1<<32 - 1, 1 << 32, 1<<32 + 1, 1<<53 + 1, 1<<63 - 1, 1 << 63, 1<<63 + 1, math.MaxUint64 - 2, math.MaxUint64 - 1, math.MaxUint64}

// arms tests that Arm refuses nothing.
func arms(t *testing.T, c *clock.Clock, id, deadline uint64) {
	t.Helper()
	if err := c.Arm(id, deadline); err != nil {
		t.Errorf("Arm(%d, %d): %v", id, deadline, err)
	}
}

// armFails tests that Arm refuses, by an error of the form of R2 and of that kind itself, and changes nothing that can be asked.
func armFails(t *testing.T, c *clock.Clock, id, deadline uint64, kind api.Err) {
	t.Helper()
	was, is := c.Deadline(id)
	armed, now := c.Armed(), c.Now()
	err := c.Arm(id, deadline)
	var at *api.At
	if !errors.As(err, &at) || error(at) != err || at.Layer != "clock" || at.N != 0 || at.Err != kind || !errors.Is(err, kind) {
		t.Errorf("Arm(%d, %d): %#v, not %v", id, deadline, err, kind)
	}
	if then, still := c.Deadline(id); then != was || still != is || c.Armed() != armed || c.Now() != now {
		t.Errorf("Arm(%d, %d) fails, but has changed something", id, deadline)
	}
}

// disarms tests that Disarm answers want, and that the id is not armed then.
func disarms(t *testing.T, c *clock.Clock, id uint64, want bool) {
	t.Helper()
	armed := c.Armed()
	if want {
		armed--
	}
	if got := c.Disarm(id); got != want {
		t.Errorf("Disarm(%d) is %v, not %v", id, got, want)
	}
	if c.Armed() != armed {
		t.Errorf("Disarm(%d) leaves %d armed, not %d", id, c.Armed(), armed)
	}
	unarmed(t, c, id)
}

// armedAt tests that id is armed with that deadline.
func armedAt(t *testing.T, c *clock.Clock, id, want uint64) {
	t.Helper()
	if deadline, is := c.Deadline(id); deadline != want || !is {
		t.Errorf("Deadline(%d) is %d, %v, not %d", id, deadline, is, want)
	}
}

// unarmed tests that these ids are not armed.
func unarmed(t *testing.T, c *clock.Clock, ids ...uint64) {
	t.Helper()
	for _, id := range ids {
		if deadline, is := c.Deadline(id); deadline != 0 || is {
			t.Errorf("Deadline(%d) is %d, %v, not 0, false", id, deadline, is)
		}
	}
}

// ticks tests which ids a Tick returns, and that they are not armed then.
func ticks(t *testing.T, c *clock.Clock, want ...uint64) {
	t.Helper()
	now, armed := c.Now(), c.Armed()
	got := c.Tick()
	if !slices.Equal(got, want) {
		t.Errorf("the tick to %d returns %d, not %d", now+1, got, want)
	}
	if c.Now() != now+1 {
		t.Errorf("a tick makes %d of %d", c.Now(), now)
	}
	if c.Armed() != armed-len(want) {
		t.Errorf("the tick to %d leaves %d of %d armed", now+1, c.Armed(), armed)
	}
	unarmed(t, c, want...)
}

// has tests the time and how many ids are armed.
func has(t *testing.T, c *clock.Clock, now uint64, armed int) {
	t.Helper()
	if c.Now() != now || c.Armed() != armed {
		t.Errorf("the time is %d, not %d, with %d armed, not %d", c.Now(), now, c.Armed(), armed)
	}
}

// P8.1: New, Now

func TestExample(t *testing.T) {
	c := clock.New()
	arms(t, c, 7, 0)
	arms(t, c, 8, 2)
	ticks(t, c, 7)
	ticks(t, c, 8)
	ticks(t, c)
	has(t, c, 3, 0)
}

func TestNew(t *testing.T) {
	c := clock.New()
	has(t, c, 0, 0)
	unarmed(t, c, edges...)
	for _, id := range edges {
		disarms(t, c, id, false)
	}
	has(t, c, 0, 0)
}

func TestTicksAlone(t *testing.T) {
	c := clock.New()
	for now := range uint64(1000) {
		has(t, c, now, 0)
		ticks(t, c)
	}
	has(t, c, 1000, 0)
}

// P8.1: Arm

func TestArmOfEachIdAndDeadline(t *testing.T) {
	for _, id := range edges[1:] {
		for _, deadline := range edges[:len(edges)-1] {
			c := clock.New()
			arms(t, c, id, deadline)
			has(t, c, 0, 1)
			armedAt(t, c, id, deadline)
			for _, other := range edges {
				if other != id {
					unarmed(t, c, other)
				}
			}
			disarms(t, c, id, true)
			disarms(t, c, id, false)
			has(t, c, 0, 0)
		}
	}
}

func TestArmOfZero(t *testing.T) {
	c := clock.New()
	for _, deadline := range edges {
		armFails(t, c, 0, deadline, api.ErrArg)
	}
	has(t, c, 0, 0)
	arms(t, c, 4, 1)
	for _, deadline := range edges {
		armFails(t, c, 0, deadline, api.ErrArg)
	}
	ticks(t, c, 4)
	has(t, c, 1, 0)
}

func TestArmOfAnArmedId(t *testing.T) {
	for _, id := range edges[1:] {
		c := clock.New()
		arms(t, c, id, 3)
		for _, deadline := range edges {
			armFails(t, c, id, deadline, api.ErrState)
		}
		ticks(t, c)
		ticks(t, c)
		armFails(t, c, id, 3, api.ErrState)
		ticks(t, c, id)
		arms(t, c, id, 4)
		armFails(t, c, id, 5, api.ErrState)
		ticks(t, c, id)
		ticks(t, c)
	}
}

func TestArmThatFailsKeepsTheOrder(t *testing.T) {
	c := clock.New()
	arms(t, c, 5, 2)
	arms(t, c, 6, 2)
	armFails(t, c, 5, 2, api.ErrState)
	armFails(t, c, 5, 1, api.ErrState)
	armFails(t, c, 6, 0, api.ErrState)
	ticks(t, c)
	ticks(t, c, 5, 6)
}

func TestArmForever(t *testing.T) {
	c := clock.New()
	for _, id := range edges[1:] {
		arms(t, c, id, api.Forever)
		arms(t, c, id, api.Forever)
		unarmed(t, c, id)
		disarms(t, c, id, false)
		has(t, c, 0, 0)
	}
	ticks(t, c)
	arms(t, c, 1, 2)
	armFails(t, c, 1, api.Forever, api.ErrState)
	ticks(t, c, 1)
	has(t, c, 2, 0)
}

func TestTheLastDeadlineBeforeForever(t *testing.T) {
	c := clock.New()
	arms(t, c, 3, api.Forever-1)
	has(t, c, 0, 1)
	for range 100 {
		ticks(t, c)
	}
	armedAt(t, c, 3, api.Forever-1)
	disarms(t, c, 3, true)
}

// P8.1: Disarm, Deadline

func TestDisarmOfOthers(t *testing.T) {
	c := clock.New()
	arms(t, c, 1, 2)
	arms(t, c, 2, 2)
	arms(t, c, 3, 1)
	for _, id := range []uint64{0, 4, 1<<32 + 1, 1<<63 + 1, math.MaxUint64} {
		disarms(t, c, id, false)
	}
	disarms(t, c, 1, true)
	armedAt(t, c, 2, 2)
	armedAt(t, c, 3, 1)
	ticks(t, c, 3)
	disarms(t, c, 3, false)
	disarms(t, c, 1, false)
	ticks(t, c, 2)
	disarms(t, c, 2, false)
	has(t, c, 2, 0)
}

func TestDisarmOfEachOne(t *testing.T) {
	for n := uint64(1); n <= 20; n++ {
		for gone := uint64(1); gone <= n; gone++ {
			p := newPair()
			for id := uint64(1); id <= n; id++ {
				p.arm(t, id, id*7%5)
			}
			p.disarm(t, gone)
			for range 6 {
				p.tick(t)
			}
			has(t, p.c, 6, 0)
			if t.Failed() {
				t.Fatalf("without %d of %d", gone, n)
			}
		}
	}
}

func TestArmedAnew(t *testing.T) {
	c := clock.New()
	arms(t, c, 1, 2)
	arms(t, c, 2, 2)
	disarms(t, c, 1, true)
	arms(t, c, 1, 2)
	ticks(t, c)
	ticks(t, c, 2, 1)
	arms(t, c, 1, 9)
	disarms(t, c, 1, true)
	arms(t, c, 1, 4)
	armedAt(t, c, 1, 4)
	ticks(t, c)
	ticks(t, c, 1)
	for range 6 {
		ticks(t, c)
	}
}

func TestDeadlineChangesNothing(t *testing.T) {
	c := clock.New()
	arms(t, c, 9, 1)
	for range 3 {
		armedAt(t, c, 9, 1)
		unarmed(t, c, 0, 1, 8, 10)
		has(t, c, 0, 1)
	}
	ticks(t, c, 9)
}

// P8.1: Tick

func TestTickInTheOrderOfDeadlines(t *testing.T) {
	c := clock.New()
	for range 9 {
		ticks(t, c)
	}
	for _, deadline := range []uint64{4, 10, 0, 11, 9, 3, 10, 0, 12, 4} {
		arms(t, c, 100+uint64(c.Armed()), deadline)
	}
	ticks(t, c, 102, 107, 105, 100, 109, 104, 101, 106)
	ticks(t, c, 103)
	ticks(t, c, 108)
	has(t, c, 12, 0)
}

func TestTickInTheOrderOfArming(t *testing.T) {
	for n := range 40 {
		c := clock.New()
		var want []uint64
		for i := range n {
			id := 1 + uint64(n-1-i)*17%41
			arms(t, c, id, 2)
			want = append(want, id)
		}
		ticks(t, c)
		ticks(t, c, want...)
		ticks(t, c)
	}
}

func TestTickAtTheDeadline(t *testing.T) {
	for deadline := range uint64(20) {
		for from := range uint64(22) {
			c := clock.New()
			for range from {
				ticks(t, c)
			}
			arms(t, c, 5, deadline)
			for now := from + 1; now < max(deadline, from+1); now++ {
				ticks(t, c)
				armedAt(t, c, 5, deadline)
			}
			ticks(t, c, 5)
			ticks(t, c)
			if t.Failed() {
				t.Fatalf("armed at %d for %d", from, deadline)
			}
		}
	}
}

func TestDeadlinesFarAwayDoNotPass(t *testing.T) {
	c := clock.New()
	for i, deadline := range edges[4 : len(edges)-1] {
		arms(t, c, uint64(i+1), deadline)
	}
	armed := c.Armed()
	for range 50 {
		ticks(t, c)
	}
	has(t, c, 50, armed)
	arms(t, c, 100, 51)
	ticks(t, c, 100)
	has(t, c, 51, armed)
}

// P8.2

func TestAfterAtTheEdges(t *testing.T) {
	forever := new(big.Int).SetUint64(math.MaxUint64)
	for _, now := range edges {
		for _, n := range edges {
			sum := new(big.Int).Add(new(big.Int).SetUint64(now), new(big.Int).SetUint64(n))
			if sum.Cmp(forever) > 0 {
				sum = forever
			}
			if got := clock.After(now, n); got != sum.Uint64() {
				t.Errorf("After(%d, %d) is %d, not %v", now, n, got, sum)
			}
		}
	}
}

func TestAfter(t *testing.T) {
	for _, r := range [][3]uint64{
		{0, 0, 0}, {5, 0, 5}, {0, 5, 5}, {3, 4, 7},
		{api.Forever - 2, 1, api.Forever - 1},
		{api.Forever - 2, 2, api.Forever},
		{api.Forever - 2, 3, api.Forever},
		{1, api.Forever - 2, api.Forever - 1},
		{1, api.Forever - 1, api.Forever},
		{1, api.Forever, api.Forever},
		{2, api.Forever, api.Forever},
		{api.Forever, 0, api.Forever},
		{0, api.Forever, api.Forever},
		{api.Forever, 1, api.Forever},
		{api.Forever, api.Forever, api.Forever},
		{1 << 63, 1<<63 - 2, api.Forever - 1},
		{1 << 63, 1<<63 - 1, api.Forever},
		{1 << 63, 1 << 63, api.Forever},
	} {
		if got := clock.After(r[0], r[1]); got != r[2] {
			t.Errorf("After(%d, %d) is %d, not %d", r[0], r[1], got, r[2])
		}
	}
}

// P8.3

// timer is an armed id.
type timer struct{ id, deadline uint64 }

// pair is a clock and a list of what must be armed in it, in the order of arming.
type pair struct {
	c      *clock.Clock
	now    uint64
	timers []timer
}

func newPair() *pair { return &pair{c: clock.New()} }

func (p *pair) index(id uint64) int {
	return slices.IndexFunc(p.timers, func(x timer) bool { return x.id == id })
}

func (p *pair) arm(t *testing.T, id, deadline uint64) {
	t.Helper()
	switch {
	case id == 0:
		armFails(t, p.c, id, deadline, api.ErrArg)
	case p.index(id) >= 0:
		armFails(t, p.c, id, deadline, api.ErrState)
	default:
		arms(t, p.c, id, deadline)
		if deadline != api.Forever {
			p.timers = append(p.timers, timer{id, deadline})
		}
	}
}

func (p *pair) disarm(t *testing.T, id uint64) {
	t.Helper()
	i := p.index(id)
	disarms(t, p.c, id, i >= 0)
	if i >= 0 {
		p.timers = slices.Delete(p.timers, i, i+1)
	}
}

func (p *pair) tick(t *testing.T) {
	t.Helper()
	p.now++
	var want []uint64
	// By each deadline that has come, in the order of arming.
	for deadline := range p.now + 1 {
		for _, x := range p.timers {
			if x.deadline == deadline {
				want = append(want, x.id)
			}
		}
	}
	ticks(t, p.c, want...)
	p.timers = slices.DeleteFunc(p.timers, func(x timer) bool { return x.deadline <= p.now })
}

// agrees tests that the clock is as the list has it, for all ids up to most.
func (p *pair) agrees(t *testing.T, most uint64) {
	t.Helper()
	has(t, p.c, p.now, len(p.timers))
	for id := range most + 1 {
		if i := p.index(id); i >= 0 {
			armedAt(t, p.c, id, p.timers[i].deadline)
		} else {
			unarmed(t, p.c, id)
		}
	}
}

func TestLongLives(t *testing.T) {
	r := rand.New(rand.NewSource(8))
	for range 150 {
		p := newPair()
		most, span := uint64(1+r.Intn(30)), 1+r.Intn(20)
		for range 300 {
			id := uint64(r.Intn(int(most) + 1))
			switch n := r.Intn(20); {
			case n < 10:
				p.arm(t, id, max(p.now, 5)-5+uint64(r.Intn(span)))
			case n < 11:
				p.arm(t, id, api.Forever)
			case n < 12:
				p.arm(t, id, edges[r.Intn(len(edges))])
			case n < 16:
				p.disarm(t, id)
			default:
				p.tick(t)
			}
			p.agrees(t, most)
			if t.Failed() {
				t.FailNow()
			}
		}
	}
}

func TestEachIdIsReturnedOnceAtItsDeadline(t *testing.T) {
	const n = 50000
	deadlineOf := func(id uint64) uint64 { return id * 7919 % 1000 }
	c := clock.New()
	for id := uint64(1); id <= n; id++ {
		arms(t, c, id, deadlineOf(id))
	}
	for id := uint64(3); id <= n; id += 3 {
		disarms(t, c, id, true)
	}
	times := map[uint64]int{}
	for range 1000 {
		for _, id := range c.Tick() {
			times[id]++
			if id%3 == 0 || c.Now() != max(deadlineOf(id), 1) {
				t.Fatalf("%d at %d", id, c.Now())
			}
		}
	}
	has(t, c, 1000, 0)
	for id := uint64(1); id <= n; id++ {
		if id%3 != 0 && times[id] != 1 {
			t.Fatalf("%d is returned %d times", id, times[id])
		}
	}
}

// R3

func TestATicksIdsAreNewMemory(t *testing.T) {
	c := clock.New()
	for id := uint64(1); id <= 6; id++ {
		arms(t, c, id, (id+1)/2)
	}
	first := c.Tick()
	clear(first[:cap(first)])
	second := c.Tick()
	third := c.Tick()
	clear(third[:cap(third)])
	if !slices.Equal(second, []uint64{3, 4}) || !slices.Equal(first, []uint64{0, 0}) {
		t.Errorf("%d after %d", second, first)
	}
	arms(t, c, 3, 0)
	ticks(t, c, 3)
	if !slices.Equal(second, []uint64{3, 4}) {
		t.Errorf("a later tick makes it %d", second)
	}
}

// R4

func TestTwoClocksHaveNothingInCommon(t *testing.T) {
	a, b := clock.New(), clock.New()
	arms(t, a, 1, 1)
	arms(t, b, 1, 2)
	ticks(t, a, 1)
	has(t, b, 0, 1)
	armedAt(t, b, 1, 2)
	arms(t, a, 1, 2)
	disarms(t, b, 1, true)
	armedAt(t, a, 1, 2)
	ticks(t, b)
	ticks(t, b)
	ticks(t, a, 1)
	has(t, a, 2, 0)
	has(t, b, 2, 0)
}
