package code_test

import (
	"errors"
	"math"
	"math/rand"
	"slices"
	"strings"
	"testing"

	"distaff/api"
	"distaff/code"
)

const top = math.MaxUint64

// rows are the operations in the order of api's list, each with its fields as the chapter's table gives them: C|V: C, or V where C is -1; B|V likewise; [B]: B may be -1; T is a V that is a target, N one that is a call.
const rows = `
set A V
mov A B
add A B C|V
sub A B C|V
and A B C|V
or A B C|V
xor A B C|V
shl A B C|V
shr A B C|V
eq A B C|V
lt A B C|V
jmp T
jz A T
jnz A T
jsr T
ret
ld A [B] V
st A [B] V
swp A [B] V
fad A [B] V
cas A [B] C V
call N
hsh A B
qpt A B C
qtk A B C
qmv A B C
qhs A B C
slp A
hnd A
pik A
lay A [B] V
tak A [B] C V
inj
ijt A
run A
prk A
slf A
wrk A
wkd A B
wkn A
now A
drw A
get A B|V
fre A
obj A B V
del A
ckp A B
tnw A B C
tst A B
thm A B
tjn A
tdt A
tex A
trp A B
end
yld
cbk A
fin`

// noOps are numbers that are no operation, though they lie beside one, or agree with one in some bits.
var noOps = []int{math.MinInt, -api.Set, -1, 0, api.Last + 1, api.Last + 2, 64, 128, 256 + api.Set, 1<<32 + api.Set, 1<<32 + api.Call, math.MaxInt}

// registers are numbers in a register's field: -1, those that are registers, and those beside them.
var registers = []int{math.MinInt, -32, -2, -1, 0, 1, 17, api.Regs - 1, api.Regs, api.Regs + 1, 1<<32 + 3, math.MaxInt}

// form is what the rows say of an operation.
type form struct {
	name   string
	fields []string
}

// forms are the rows by operations.
func forms(t *testing.T) map[int]form {
	t.Helper()
	m := map[int]form{}
	for i, l := range strings.Split(strings.TrimSpace(rows), "\n") {
		w := strings.Fields(l)
		m[api.Set+i] = form{name: w[0], fields: w[1:]}
	}
	if len(m) != api.Last || m[api.Call].name != "call" || m[api.Qtk].name != "qtk" || m[api.Last].name != "fin" {
		t.Fatalf("%d rows, not %d, or in another order", len(m), api.Last)
	}
	return m
}

func (f form) has(field string) bool { return slices.Contains(f.fields, field) }

// may tells by the row, field by field, whether x may be in code of that length.
func (f form) may(x api.Ins, length int, library bool) bool {
	isReg := func(n int) bool { return n >= 0 && n <= 31 }
	a, b, c, v := x.A == 0, x.B == 0, x.C == 0, x.V == 0
	for _, w := range f.fields {
		switch w {
		case "A":
			a = isReg(x.A)
		case "B":
			b = isReg(x.B)
		case "[B]":
			b = isReg(x.B) || x.B == -1
		case "C":
			c = isReg(x.C)
		case "B|V":
			b, v = isReg(x.B) && x.V == 0 || x.B == -1, true
		case "C|V":
			c, v = isReg(x.C) && x.V == 0 || x.C == -1, true
		case "V":
			v = true
		case "T":
			v = x.V < uint64(length)
		case "N":
			v = x.V < 1000
		}
	}
	mark := x.M >= 0 && x.M <= 99 && (x.When == 0 || x.M > 0 && (x.When == 1 || x.When == 2) && f.has("A"))
	side := library && f.name != "call" || !library && x.Op >= api.Set && x.Op <= api.Call && x.M == 0
	return a && b && c && v && mark && side
}

// example is an instruction of that operation which is valid in code of any length.
func (f form) example(op int) api.Ins {
	x := api.Ins{Op: op}
	for _, w := range f.fields {
		switch w {
		case "A":
			x.A = 3
		case "B", "[B]", "B|V":
			x.B = 4
		case "C", "C|V":
			x.C = 5
		}
	}
	return x
}

// rets is code of n instructions, all of them ret.
func rets(n int) []api.Ins {
	l := make([]api.Ins, n)
	for i := range l {
		l[i] = api.Ins{Op: api.Ret}
	}
	return l
}

// fine tests that there is no error.
func fine(t *testing.T, err error) {
	t.Helper()
	if err != nil {
		t.Errorf("refused: %#v", err)
	}
}

// failed tests that err has the form of R2, with that place, and is of that kind itself.
func failed(t *testing.T, err error, n int, kind api.Err) {
	t.Helper()
	at, is := err.(*api.At)
	if !is {
		t.Errorf("the error is %v, not %d %v", err, n, kind)
		return
	}
	if at.Layer != "code" || at.N != n || at.Err != kind {
		t.Errorf("the error is %s %d %v, not %d %v", at.Layer, at.N, at.Err, n, kind)
	}
}

// failedWithin tests that err wraps an error of Check, both with that place, of that kind.
func failedWithin(t *testing.T, err error, n int, kind api.Err) {
	t.Helper()
	var at *api.At
	if !errors.As(err, &at) || at.Layer != "code" || at.N != n || !errors.Is(err, kind) {
		t.Errorf("the error is %#v, not %d %v", err, n, kind)
		return
	}
	failed(t, at.Err, n, kind)
}

// judged tests what Check says of x, which stands at i in l.
func judged(t *testing.T, l []api.Ins, i int, library, valid bool) {
	t.Helper()
	err := code.Check(l, library)
	if valid && err == nil {
		return
	}
	var at *api.At
	if valid || !errors.As(err, &at) || at.N != i || at.Err != api.ErrCode {
		t.Errorf("%+v at %d of %d (library %v): %#v, but valid is %v", l[i], i, len(l), library, err, valid)
	}
}

// P4.1: single instructions

// TestFieldsOfEachOperation puts each number into each field, on both sides.
func TestFieldsOfEachOperation(t *testing.T) {
	const length = 5
	numbers := []uint64{0, 1, length - 1, length, 999, 1000, 1 << 32, 1 << 63, top}
	l := rets(length)
	for op, f := range forms(t) {
		for _, a := range registers {
			for _, b := range registers {
				for _, c := range registers {
					for _, v := range numbers {
						l[2] = api.Ins{Op: op, A: a, B: b, C: c, V: v}
						judged(t, l, 2, false, f.may(l[2], length, false))
						judged(t, l, 2, true, f.may(l[2], length, true))
					}
				}
			}
		}
	}
}

func TestMarksOfEachOperation(t *testing.T) {
	l := rets(3)
	for op, f := range forms(t) {
		for _, m := range []int{math.MinInt, -99, -1, 0, 1, 2, 50, 98, 99, 100, 101, 1 << 32, 1<<32 + 1, math.MaxInt} {
			for _, when := range []int{math.MinInt, -2, -1, 0, 1, 2, 3, 4, 1 << 32, 1<<32 + 1, math.MaxInt} {
				x := f.example(op)
				x.M, x.When = m, when
				l[1] = x
				judged(t, l, 1, false, f.may(x, 3, false))
				judged(t, l, 1, true, f.may(x, 3, true))
			}
		}
	}
}

func TestNoOperations(t *testing.T) {
	for _, op := range noOps {
		for _, x := range []api.Ins{{Op: op}, {Op: op, A: 1}, {Op: op, A: 1, B: 2, C: 3, V: 4}, {Op: op, B: -1}, {Op: op, M: 7}} {
			failed(t, code.Check([]api.Ins{x}, false), 0, api.ErrCode)
			failed(t, code.Check([]api.Ins{x}, true), 0, api.ErrCode)
		}
	}
	failed(t, code.Check([]api.Ins{{}}, true), 0, api.ErrCode)
}

// TestSides tells the operations of both sides, those of clients and those of libraries apart.
func TestSides(t *testing.T) {
	for op, f := range forms(t) {
		l := []api.Ins{f.example(op)}
		judged(t, l, 0, false, op <= api.Call)
		judged(t, l, 0, true, op != api.Call)
		l[0].M = 7
		judged(t, l, 0, false, false)
		judged(t, l, 0, true, op != api.Call)
	}
}

func TestByHand(t *testing.T) {
	for _, r := range []struct {
		x               api.Ins
		client, library bool
	}{
		{api.Ins{Op: api.Set, A: 32}, false, false},
		{api.Ins{Op: api.Set, A: 31, V: top}, true, true},
		{api.Ins{Op: api.Add, A: 1, B: 2, C: -1, V: 5}, true, true},
		{api.Ins{Op: api.Add, A: 1, B: 2, C: 3, V: 5}, false, false},
		{api.Ins{Op: api.Add, A: 1, B: 2, C: 3}, true, true},
		{api.Ins{Op: api.Add, A: 1, B: -1, C: 3}, false, false},
		{api.Ins{Op: api.Add, A: 1, B: -1, C: -1}, false, false},
		{api.Ins{Op: api.Lt, A: 1, B: 2, C: -1, V: top}, true, true},
		{api.Ins{Op: api.Mov, A: 1, B: 2, V: 1}, false, false},
		{api.Ins{Op: api.Mov, A: 1, B: 2, C: -1}, false, false},
		{api.Ins{Op: api.Set, A: 1, B: -1, V: 5}, false, false},
		{api.Ins{Op: api.Ld, A: 1, B: -1, V: top}, true, true},
		{api.Ins{Op: api.Ld, A: 1, B: 31, V: top}, true, true},
		{api.Ins{Op: api.Ld, A: 1, B: 2, C: -1}, false, false},
		{api.Ins{Op: api.Cas, A: 1, B: -1, C: 2, V: 9}, true, true},
		{api.Ins{Op: api.Cas, A: 1, B: 2, C: -1, V: 9}, false, false},
		{api.Ins{Op: api.Jmp}, true, true},
		{api.Ins{Op: api.Jmp, V: 1}, false, false},
		{api.Ins{Op: api.Jz, A: 1, V: top}, false, false},
		{api.Ins{Op: api.Call, V: 999}, true, false},
		{api.Ins{Op: api.Call, V: 1000}, false, false},
		{api.Ins{Op: api.Ret, M: 19}, false, true},
		{api.Ins{Op: api.Ret, M: 19, When: 1}, false, false},
		{api.Ins{Op: api.Cas, A: 3, B: 0, C: 4, M: 7, When: 1}, false, true},
		{api.Ins{Op: api.Cas, A: 3, B: 0, C: 4, When: 1}, false, false},
		{api.Ins{Op: api.Or, A: 2, B: 2, C: 3, M: 19}, false, true},
		{api.Ins{Op: api.Jz, A: 3, M: 99, When: 2}, false, true},
		{api.Ins{Op: api.Jmp, M: 99}, false, true},
		{api.Ins{Op: api.Jmp, M: 99, When: 2}, false, false},
		{api.Ins{Op: api.Qtk, A: 13, B: 9, C: 5, M: 12}, false, true},
		{api.Ins{Op: api.Qtk, A: 13, B: 9, C: -1}, false, false},
		{api.Ins{Op: api.Wkd, A: 1, B: -1}, false, false},
		{api.Ins{Op: api.Get, A: 1, B: -1, V: 5000}, false, true},
		{api.Ins{Op: api.Get, A: 1, B: 2, V: 4}, false, false},
		{api.Ins{Op: api.Get, A: 1, B: 2}, false, true},
		{api.Ins{Op: api.Get, A: 1, B: 2, C: -1, V: 4}, false, false},
		{api.Ins{Op: api.Obj, A: 2, B: 1, V: top, M: 5}, false, true},
		{api.Ins{Op: api.Obj, A: 2, B: -1, V: 1}, false, false},
		{api.Ins{Op: api.Lay, A: 18, B: 17, V: 1}, false, true},
		{api.Ins{Op: api.Tak, A: 22, B: -1, C: 23, V: 17}, false, true},
		{api.Ins{Op: api.Tak, A: 22, B: 17, C: -1}, false, false},
		{api.Ins{Op: api.Fin, A: 1}, false, false},
		{api.Ins{Op: api.Fin}, false, true},
	} {
		judged(t, []api.Ins{r.x}, 0, false, r.client)
		judged(t, []api.Ins{r.x}, 0, true, r.library)
	}
}

// P4.1: lists of instructions

func TestNoInstructions(t *testing.T) {
	for _, library := range []bool{false, true} {
		fine(t, code.Check(nil, library))
		fine(t, code.Check([]api.Ins{}, library))
	}
}

// TestTargetsAtEachLength puts jumps to all places that matter at the ends of code of several lengths.
func TestTargetsAtEachLength(t *testing.T) {
	for _, n := range []int{1, 2, 3, 100, api.MaxCode} {
		for _, i := range []int{0, n / 2, n - 1} {
			for _, op := range []int{api.Jmp, api.Jz, api.Jnz, api.Jsr} {
				for _, v := range []uint64{0, uint64(n / 2), uint64(n - 1), uint64(n), uint64(n + 1), 1 << 32, 1 << 63, top} {
					l := rets(n)
					l[i] = api.Ins{Op: op, V: v}
					judged(t, l, i, false, v < uint64(n))
					judged(t, l, i, true, v < uint64(n))
				}
			}
		}
	}
}

func TestTooManyInstructions(t *testing.T) {
	for _, library := range []bool{false, true} {
		fine(t, code.Check(rets(api.MaxCode), library))
		failed(t, code.Check(rets(api.MaxCode+1), library), 0, api.ErrRoom)
		failed(t, code.Check(rets(2*api.MaxCode), library), 0, api.ErrRoom)
		failed(t, code.Check(make([]api.Ins, api.MaxCode+1), library), 0, api.ErrRoom)
		failed(t, code.Check(make([]api.Ins, api.MaxCode), library), 0, api.ErrCode)
	}
}

func TestFirstInvalidInstruction(t *testing.T) {
	bad := api.Ins{Op: api.Set, A: 32}
	for _, n := range []int{1, 2, 7, api.MaxCode} {
		for _, i := range []int{0, 1, n / 2, n - 1} {
			if i >= n {
				continue
			}
			l := rets(n)
			l[i], l[n-1] = bad, bad
			failed(t, code.Check(l, false), i, api.ErrCode)
			failed(t, code.Check(l, true), i, api.ErrCode)
		}
	}
	mixed := []api.Ins{{Op: api.Ret}, {Op: api.Call}, {Op: api.Fin}, bad}
	failed(t, code.Check(mixed, false), 2, api.ErrCode)
	failed(t, code.Check(mixed, true), 1, api.ErrCode)
}

// P4.2: Client

// client is a valid program, whose code has three instructions.
func client() api.Prog {
	return api.Prog{Code: []api.Ins{{Op: api.Set, A: 1, V: 5}, {Op: api.St, A: 1, B: -1}, {Op: api.Ret}}, Wide: 1}
}

func TestClientCells(t *testing.T) {
	const most = api.MaxShared
	for _, r := range []struct {
		wide, narrow int
		valid        bool
	}{
		{0, 0, true}, {1, 0, true}, {0, 1, true}, {most, 0, true}, {0, most, true}, {most / 2, most / 2, true}, {most - 1, 1, true}, {1, most - 1, true},
		{most + 1, 0, false}, {0, most + 1, false}, {most, 1, false}, {1, most, false}, {most/2 + 1, most / 2, false}, {most, most, false},
		{-1, 0, false}, {0, -1, false}, {-1, -1, false}, {-1, 1, false}, {5, -3, false}, {-3, 5, false}, {most + 1, -1, false}, {-1, most + 1, false},
		{math.MaxInt, 0, false}, {0, math.MaxInt, false}, {math.MaxInt, 1, false}, {1, math.MaxInt, false}, {math.MaxInt, math.MaxInt, false},
		{math.MinInt, 0, false}, {0, math.MinInt, false}, {math.MinInt, math.MinInt, false}, {math.MinInt, math.MaxInt, false}, {math.MaxInt, math.MinInt, false},
	} {
		p := client()
		p.Wide, p.Narrow = r.wide, r.narrow
		if err := code.Client(p); r.valid {
			fine(t, err)
		} else {
			failed(t, err, 0, api.ErrArg)
		}
	}
}

func TestClientEntry(t *testing.T) {
	for _, n := range []int{1, 3, api.MaxCode} {
		p := api.Prog{Code: rets(n)}
		for _, p.Entry = range []int{0, n / 2, n - 1} {
			fine(t, code.Client(p))
		}
		for _, p.Entry = range []int{n, n + 1, math.MaxInt} {
			failed(t, code.Client(p), p.Entry, api.ErrCode)
		}
		for _, p.Entry = range []int{-1, -n, math.MinInt} {
			failed(t, code.Client(p), 0, api.ErrCode)
		}
	}
}

func TestClientCode(t *testing.T) {
	p := client()
	fine(t, code.Client(p))
	p.Code[2] = api.Ins{Op: api.Call, V: 15}
	fine(t, code.Client(p))
	for _, bad := range []api.Ins{{}, {Op: api.Set, A: 32}, {Op: api.Jmp, V: 3}, {Op: api.Hsh}, {Op: api.Fin}, {Op: api.Ret, M: 7}} {
		for i := range 3 {
			p := client()
			p.Code[i] = bad
			failedWithin(t, code.Client(p), i, api.ErrCode)
		}
	}
	failedWithin(t, code.Client(api.Prog{Code: rets(api.MaxCode + 1)}), 0, api.ErrRoom)
}

// TestClientOrder takes the errors away, one by one, from a program that has them all.
func TestClientOrder(t *testing.T) {
	p := api.Prog{Entry: -5, Wide: -1}
	failed(t, code.Client(p), 0, api.ErrArg)
	p.Code = make([]api.Ins, api.MaxCode+1)
	failed(t, code.Client(p), 0, api.ErrArg)
	p.Wide = 0
	failedWithin(t, code.Client(p), 0, api.ErrRoom)
	p.Code, p.Entry = rets(4), 4
	p.Code[3] = api.Ins{Op: api.Inj}
	failedWithin(t, code.Client(p), 3, api.ErrCode)
	p.Code[3] = api.Ins{Op: api.Ret}
	failed(t, code.Client(p), 4, api.ErrCode)
	p.Entry = 3
	fine(t, code.Client(p))
}

func TestClientWithoutCode(t *testing.T) {
	failed(t, code.Client(api.Prog{}), 0, api.ErrArg)
	failed(t, code.Client(api.Prog{Code: []api.Ins{}, Entry: 7, Wide: 3}), 0, api.ErrArg)
	failed(t, code.Client(api.Prog{Entry: -1}), 0, api.ErrArg)
}

// P4.2: Library

// library is a valid one, whose code has four instructions.
func library(calls ...api.Row) api.Lib {
	return api.Lib{Code: []api.Ins{{Op: api.Ijt, A: 1}, {Op: api.Run, A: 1}, {Op: api.Jmp}, {Op: api.Fin}}, Calls: calls}
}

func TestLibraryLoop(t *testing.T) {
	for _, n := range []int{1, 3, api.MaxCode} {
		l := api.Lib{Code: rets(n), Calls: []api.Row{{Num: 1}}}
		for _, l.Loop = range []int{0, n / 2, n - 1} {
			fine(t, code.Library(l))
		}
		for _, l.Loop = range []int{n, n + 1, math.MaxInt} {
			failed(t, code.Library(l), l.Loop, api.ErrCode)
		}
		for _, l.Loop = range []int{-1, -n, math.MinInt} {
			failed(t, code.Library(l), 0, api.ErrCode)
		}
	}
}

func TestLibraryCode(t *testing.T) {
	l := library()
	fine(t, code.Library(l))
	l.Code[1].M, l.Code[1].When = 12, 2
	fine(t, code.Library(l))
	for _, bad := range []api.Ins{{}, {Op: api.Set, A: 32}, {Op: api.Jmp, V: 4}, {Op: api.Call, V: 2}, {Op: api.Fin, M: 1, When: 1}, {Op: api.Last + 1}} {
		for i := range 4 {
			l := library(api.Row{Num: 1})
			l.Code[i] = bad
			failedWithin(t, code.Library(l), i, api.ErrCode)
		}
	}
	failedWithin(t, code.Library(api.Lib{Code: rets(api.MaxCode + 1)}), 0, api.ErrRoom)
}

func TestLibraryWithoutCode(t *testing.T) {
	failed(t, code.Library(api.Lib{}), 0, api.ErrArg)
	failed(t, code.Library(api.Lib{Code: []api.Ins{}, Loop: 3, Calls: []api.Row{{}, {}}}), 0, api.ErrArg)
	failed(t, code.Library(api.Lib{Loop: -1}), 0, api.ErrArg)
}

// TestLibraryOrder takes the errors away, one by one, from a library that has them all.
func TestLibraryOrder(t *testing.T) {
	l := api.Lib{Loop: 9, Calls: []api.Row{{Num: 1}, {Num: 0}}}
	failed(t, code.Library(l), 0, api.ErrArg)
	l.Code = make([]api.Ins, api.MaxCode+1)
	failedWithin(t, code.Library(l), 0, api.ErrRoom)
	l.Code = rets(4)
	l.Code[2] = api.Ins{Op: api.Call}
	failedWithin(t, code.Library(l), 2, api.ErrCode)
	l.Code[2] = api.Ins{Op: api.Yld}
	failed(t, code.Library(l), 9, api.ErrCode)
	l.Loop = -9
	failed(t, code.Library(l), 0, api.ErrCode)
	l.Loop = 3
	failed(t, code.Library(l), 1, api.ErrArg)
	l.Calls[1].Num = 2
	fine(t, code.Library(l))
}

// TestLibraryRow puts each row behind two valid ones and before one that is invalid.
func TestLibraryRow(t *testing.T) {
	valid := []api.Row{
		{Num: 1}, {Num: 2}, {Num: 998}, {Num: 999}, {Num: 500, At: 3},
		{Num: 3, Kinds: [4]int{api.KNone, api.KMutex, api.KSem, api.KOnce}},
		{Num: 3, At: 1, Kinds: [4]int{api.KBarrier, api.KRwlock, api.KCond, api.KCell}},
		{Num: 3, Kinds: [4]int{api.KCell, api.KCell, api.KCell, api.KCell}},
	}
	invalid := []api.Row{
		{}, {Num: 0, At: 3}, {Num: -1}, {Num: 1000}, {Num: 1001}, {Num: 1<<32 + 1}, {Num: math.MaxInt}, {Num: math.MinInt},
		{Num: 3, At: 4}, {Num: 3, At: 5}, {Num: 3, At: -1}, {Num: 3, At: 1 << 32}, {Num: 3, At: math.MaxInt}, {Num: 3, At: math.MinInt},
		{Num: 40}, {Num: 41}, {Num: 40, At: 2, Kinds: [4]int{1, 1, 1, 1}},
	}
	for i := range 4 {
		for _, k := range []int{-1, api.KCell + 1, api.KCell + 2, 1 << 32, 1<<32 + 1, math.MaxInt, math.MinInt} {
			r := api.Row{Num: 3}
			r.Kinds[i] = k
			invalid = append(invalid, r)
		}
	}
	for _, r := range valid {
		fine(t, code.Library(library(r)))
		fine(t, code.Library(library(api.Row{Num: 40}, api.Row{Num: 41, At: 3}, r)))
		failed(t, code.Library(library(api.Row{Num: 40}, api.Row{Num: 41, At: 3}, r, api.Row{})), 3, api.ErrArg)
	}
	for _, r := range invalid {
		failed(t, code.Library(library(api.Row{Num: 40}, api.Row{Num: 41, At: 3}, r, api.Row{})), 2, api.ErrArg)
	}
}

func TestLibraryOfAllCalls(t *testing.T) {
	rows := make([]api.Row, 999)
	for i, num := range rand.New(rand.NewSource(1)).Perm(999) {
		rows[i] = api.Row{Num: num + 1, At: i % 4}
	}
	fine(t, code.Library(library(rows...)))
	for _, again := range []int{rows[0].Num, rows[500].Num, rows[998].Num} {
		failed(t, code.Library(library(append(slices.Clone(rows), api.Row{Num: again})...)), 999, api.ErrArg)
	}
	fine(t, code.Library(library()))
}

// P4.3

func TestFields(t *testing.T) {
	for op, f := range forms(t) {
		a, b, c, v := code.Fields(op)
		wantA := f.has("A")
		wantB := f.has("B") || f.has("[B]") || f.has("B|V")
		wantC := f.has("C") || f.has("C|V")
		wantV := f.has("V") || f.has("B|V") || f.has("C|V") || f.has("T") || f.has("N")
		if a != wantA || b != wantB || c != wantC || v != wantV {
			t.Errorf("%s has %v %v %v %v, not %v %v %v %v", f.name, a, b, c, v, wantA, wantB, wantC, wantV)
		}
	}
	for _, op := range noOps {
		if a, b, c, v := code.Fields(op); a || b || c || v {
			t.Errorf("%d has %v %v %v %v", op, a, b, c, v)
		}
	}
}

func TestFieldsByHand(t *testing.T) {
	for _, r := range []struct {
		op         int
		a, b, c, v bool
	}{
		{api.Set, true, false, false, true},
		{api.Mov, true, true, false, false},
		{api.Add, true, true, true, true},
		{api.Jmp, false, false, false, true},
		{api.Jz, true, false, false, true},
		{api.Ret, false, false, false, false},
		{api.Ld, true, true, false, true},
		{api.Cas, true, true, true, true},
		{api.Call, false, false, false, true},
		{api.Hsh, true, true, false, false},
		{api.Qpt, true, true, true, false},
		{api.Slp, true, false, false, false},
		{api.Lay, true, true, false, true},
		{api.Tak, true, true, true, true},
		{api.Get, true, true, false, true},
		{api.Obj, true, true, false, true},
		{api.Fin, false, false, false, false},
	} {
		if a, b, c, v := code.Fields(r.op); a != r.a || b != r.b || c != r.c || v != r.v {
			t.Errorf("%+v: %v %v %v %v", r, a, b, c, v)
		}
	}
}

// P4.4

// TestEachInstructionByItself tests that a list is judged by its instructions one by one: by the length of the whole, whatever stands beside each.
func TestEachInstructionByItself(t *testing.T) {
	r := rand.New(rand.NewSource(4))
	all := forms(t)
	// Most are operations of both sides, so that whole lists are valid often enough.
	anything := func(length int) api.Ins {
		op := 1 + r.Intn(api.Fad)
		if r.Intn(6) == 0 {
			op = 1 + r.Intn(api.Last)
		}
		x := all[op].example(op)
		if all[op].has("T") || r.Intn(10) == 0 {
			x.V = uint64(r.Intn(length + 1))
		}
		return x
	}
	lists := 0
	for range 20000 {
		n := 1 + r.Intn(6)
		library := r.Intn(2) == 0
		l := make([]api.Ins, n)
		first := n
		for i := range l {
			l[i] = anything(n)
			alone := rets(n)
			alone[r.Intn(n)] = l[i]
			ok := code.Check(alone, library) == nil
			if ok != all[l[i].Op].may(l[i], n, library) {
				t.Fatalf("%+v in code of %d (library %v): %v", l[i], n, library, ok)
			}
			if !ok {
				first = min(first, i)
			}
		}
		if err := code.Check(l, library); first == n {
			lists++
			fine(t, err)
		} else {
			failed(t, err, first, api.ErrCode)
		}
	}
	if lists < 4000 || lists > 16000 {
		t.Errorf("%d lists of 20000 are valid: the others are hardly tried", lists)
	}
}

// R3 and R4

// TestArgumentsStayAsTheyWere passes slices with spare capacity, and asks twice.
func TestArgumentsStayAsTheyWere(t *testing.T) {
	for _, bad := range []api.Ins{{Op: api.Jmp, V: 3}, {Op: api.Jmp, V: 4}} {
		ins := append(rets(3), bad, api.Ins{Op: 77}, api.Ins{Op: 78})
		calls := []api.Row{{Num: 1}, {Num: 2, At: 3}, {Num: 2}, {Num: 9}}
		wasIns, wasCalls := slices.Clone(ins), slices.Clone(calls)
		p := api.Prog{Code: ins[:4], Entry: 2, Wide: 3}
		l := api.Lib{Code: ins[:4], Loop: 1, Calls: calls[:2]}
		for range 2 {
			err := code.Check(ins[:4], true)
			if bad.V == 3 {
				fine(t, err)
				fine(t, code.Client(p))
				fine(t, code.Library(l))
			} else {
				failed(t, err, 3, api.ErrCode)
				failedWithin(t, code.Client(p), 3, api.ErrCode)
				failedWithin(t, code.Library(l), 3, api.ErrCode)
			}
		}
		if !slices.Equal(ins, wasIns) || !slices.Equal(calls, wasCalls) {
			t.Errorf("changed: %v, %v", ins, calls)
		}
	}
}

// TestErrorsAreTheirOwn changes an error that came out, and asks again.
func TestErrorsAreTheirOwn(t *testing.T) {
	l := []api.Ins{{Op: api.Ret}, {}}
	at, is := code.Check(l, false).(*api.At)
	if !is {
		t.Fatal("no error")
	}
	at.Layer, at.N, at.Err = "other", 5, api.ErrText
	failed(t, code.Check(l, false), 1, api.ErrCode)
}
