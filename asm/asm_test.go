package asm_test

import (
	"errors"
	"math"
	"math/rand"
	"regexp"
	"slices"
	"strconv"
	"strings"
	"testing"

	"distaff/api"
	"distaff/asm"
	"distaff/code"
	"distaff/word"
)

const top = math.MaxUint64

// rows are the operations in the order of api's list, each with its operands as the chapter gives them: C|V: C, or V where C is -1; B|V likewise; [B+V]: a cell; L: a target; V|L: a number or a label.
const rows = `
set A V|L
mov A B
add A B C|V
sub A B C|V
and A B C|V
or A B C|V
xor A B C|V
shl A B C|V
shr A B C|V
eq A B C|V
lt A B C|V
jmp L
jz A L
jnz A L
jsr L
ret
ld A [B+V]
st A [B+V]
swp A [B+V]
fad A [B+V]
cas A [B+V] C
call V
hsh A B
qpt A B C
qtk A B C
qmv A B C
qhs A B C
slp A
hnd A
pik A
lay A [B+V]
tak A [B+V] C
inj
ijt A
run A
prk A
slf A
wrk A
wkd A B
wkn A
now A
drw A
get A B|V
fre A
obj A B V
del A
ckp A B
tnw A B C
tst A B
thm A B
tjn A
tdt A
tex A
trp A B
end
yld
cbk A
fin`

// form is what the rows say of an operation.
type form struct {
	name   string
	fields []string
}

// forms are the rows by operations.
func forms(t *testing.T) map[int]form {
	t.Helper()
	m := map[int]form{}
	for i, l := range strings.Split(strings.TrimSpace(rows), "\n") {
		w := strings.Fields(l)
		m[api.Set+i] = form{name: w[0], fields: w[1:]}
	}
	if len(m) != api.Last || m[api.Call].name != "call" || m[api.Qtk].name != "qtk" || m[api.Last].name != "fin" {
		t.Fatalf("%d rows, not %d, or in another order", len(m), api.Last)
	}
	return m
}

// number is a numeral that stands for v.
func number(v uint64) string { return strconv.FormatUint(v, 10) }

func register(n int) string { return "r" + strconv.Itoa(n) }

// cell is the text of a cell, as Print has it.
func cell(b int, v uint64) string {
	if b == -1 {
		return "[" + number(v) + "]"
	}
	if v == 0 {
		return "[" + register(b) + "]"
	}
	return "[" + register(b) + "+" + number(v) + "]"
}

// line is the text of a valid instruction, as Print has it.
func (f form) line(x api.Ins) string {
	either := func(n int) string {
		if n == -1 {
			return number(x.V)
		}
		return register(n)
	}
	s := f.name
	for _, w := range f.fields {
		s += " "
		switch w {
		case "A":
			s += register(x.A)
		case "B":
			s += register(x.B)
		case "C":
			s += register(x.C)
		case "B|V":
			s += either(x.B)
		case "C|V":
			s += either(x.C)
		case "[B+V]":
			s += cell(x.B, x.V)
		case "V", "V|L":
			s += number(x.V)
		case "L":
			s += "p" + number(x.V)
		}
	}
	if x.M > 0 {
		s += " !" + strconv.Itoa(x.M) + []string{"", "=0", ">0"}[x.When]
	}
	return s
}

func (f form) has(field string) bool { return slices.Contains(f.fields, field) }

// any is a valid instruction with that operation, in code of that length.
func (f form) any(r *rand.Rand, op, length int) api.Ins {
	x := api.Ins{Op: op}
	reg := func() int {
		return []int{0, 1, 9, 10, 15, 19, 20, 29, 30, 31, r.Intn(32), r.Intn(32)}[r.Intn(12)]
	}
	num := func() uint64 {
		return []uint64{0, 1, 5, 31, 999, 1 << 32, 1 << 63, top - 1, top, r.Uint64()}[r.Intn(10)]
	}
	for _, w := range f.fields {
		switch w {
		case "A":
			x.A = reg()
		case "B":
			x.B = reg()
		case "C":
			x.C = reg()
		case "B|V":
			if x.B = reg(); r.Intn(2) == 0 {
				x.B, x.V = -1, num()
			}
		case "C|V":
			if x.C = reg(); r.Intn(2) == 0 {
				x.C, x.V = -1, num()
			}
		case "[B+V]":
			if x.B, x.V = reg(), num(); r.Intn(3) == 0 {
				x.B = -1
			}
		case "V", "V|L":
			if x.V = num(); f.name == "call" {
				x.V = uint64(r.Intn(1000))
			}
		case "L":
			x.V = uint64(r.Intn(length))
		}
	}
	if op != api.Call && r.Intn(3) == 0 {
		if x.M = 1 + r.Intn(99); f.has("A") {
			x.When = r.Intn(3)
		}
	}
	return x
}

// anyCode is code of n valid instructions, of both sides.
func anyCode(r *rand.Rand, all map[int]form, n int) []api.Ins {
	l := make([]api.Ins, n)
	for i := range l {
		op := 1 + r.Intn(api.Last)
		l[i] = all[op].any(r, op, n)
	}
	return l
}

// rets is code of n instructions, all of them ret.
func rets(n int) []api.Ins {
	return slices.Repeat([]api.Ins{{Op: api.Ret}}, n)
}

// fine tests that there is no error.
func fine(t *testing.T, err error) {
	t.Helper()
	if err != nil {
		t.Errorf("refused: %s", told(err))
	}
}

// told is an error with its place and what it wraps, in words.
func told(err error) string {
	switch e := err.(type) {
	case nil:
		return "no error"
	case *api.At:
		return e.Layer + " " + strconv.Itoa(e.N) + ": " + told(e.Err)
	}
	return err.Error()
}

// failed tests that err has the form of R2, with that place, and is of that kind itself.
func failed(t *testing.T, err error, n int, kind api.Err) {
	t.Helper()
	at, is := err.(*api.At)
	if !is || at.Layer != "asm" || at.N != n || at.Err != kind || !errors.Is(err, kind) {
		t.Errorf("the error is %s, not at %d of kind %v", told(err), n, kind)
	}
}

// failedWithin tests that err, on line n, wraps the error that package word tells of w.
func failedWithin(t *testing.T, err error, n int, w string) {
	t.Helper()
	_, want := word.Parse(w)
	if want == nil {
		t.Fatalf("%q is a numeral", w)
	}
	at, is := err.(*api.At)
	if !is || at.Layer != "asm" || at.N != n || told(at.Err) != told(want) || !errors.Is(err, api.ErrText) {
		t.Errorf("the error is %s, not at %d around %s", told(err), n, told(want))
	}
}

// read parses a text that has no error.
func read(t *testing.T, text string) ([]api.Ins, []asm.Label) {
	t.Helper()
	l, labels, err := asm.Parse(text)
	if err != nil {
		t.Errorf("%q is refused: %s", text, told(err))
	}
	return l, labels
}

// refused parses a text that has an error, with which nothing else may come.
func refused(t *testing.T, text string) error {
	t.Helper()
	l, labels, err := asm.Parse(text)
	if err == nil || len(l) > 0 || len(labels) > 0 {
		t.Errorf("%q gives %v and %v, %s", text, l, labels, told(err))
	}
	return err
}

// reads tests which instructions a text gives.
func reads(t *testing.T, text string, want ...api.Ins) {
	t.Helper()
	if l, _ := read(t, text); !slices.Equal(l, want) {
		t.Errorf("%q gives %v, not %v", text, l, want)
	}
}

// P5.1: what is read

func TestExamples(t *testing.T) {
	l, labels := read(t, "loop:\nadd r1 r1 1\njmp loop\n")
	if !slices.Equal(l, []api.Ins{{Op: api.Add, A: 1, B: 1, C: -1, V: 1}, {Op: api.Jmp}}) || !slices.Equal(labels, []asm.Label{{Name: "loop"}}) {
		t.Errorf("%v, %v", l, labels)
	}
	reads(t, "cas r1 [r2+3] r4 !7=0", api.Ins{Op: api.Cas, A: 1, B: 2, C: 4, V: 3, M: 7, When: 1})
}

func TestInstructionsByHand(t *testing.T) {
	for _, r := range []struct {
		text string
		x    api.Ins
	}{
		{"set r31 18446744073709551615", api.Ins{Op: api.Set, A: 31, V: top}},
		{"set r0 0xfF", api.Ins{Op: api.Set, V: 255}},
		{"mov r5 r6", api.Ins{Op: api.Mov, A: 5, B: 6}},
		{"sub r5 r6 r7", api.Ins{Op: api.Sub, A: 5, B: 6, C: 7}},
		{"sub r5 r6 7", api.Ins{Op: api.Sub, A: 5, B: 6, C: -1, V: 7}},
		{"shl r5 r6 r0", api.Ins{Op: api.Shl, A: 5, B: 6}},
		{"shl r5 r6 0", api.Ins{Op: api.Shl, A: 5, B: 6, C: -1}},
		{"lt r1 r2 0x10 !3>0", api.Ins{Op: api.Lt, A: 1, B: 2, C: -1, V: 16, M: 3, When: 2}},
		{"ret", api.Ins{Op: api.Ret}},
		{"ret !99", api.Ins{Op: api.Ret, M: 99}},
		{"ld r1 [5]", api.Ins{Op: api.Ld, A: 1, B: -1, V: 5}},
		{"ld r1 [0]", api.Ins{Op: api.Ld, A: 1, B: -1}},
		{"st r1 [r3]", api.Ins{Op: api.St, A: 1, B: 3}},
		{"st r1 [r0]", api.Ins{Op: api.St, A: 1}},
		{"swp r1 [r3+5]", api.Ins{Op: api.Swp, A: 1, B: 3, V: 5}},
		{"fad r1 [r3+0]", api.Ins{Op: api.Fad, A: 1, B: 3}},
		{"lay r18 [r17+0x1] !1", api.Ins{Op: api.Lay, A: 18, B: 17, V: 1, M: 1}},
		{"cas r1 [2] r4", api.Ins{Op: api.Cas, A: 1, B: -1, C: 4, V: 2}},
		{"tak r22 [r17] r23", api.Ins{Op: api.Tak, A: 22, B: 17, C: 23}},
		{"call 15", api.Ins{Op: api.Call, V: 15}},
		{"hsh r10 r9", api.Ins{Op: api.Hsh, A: 10, B: 9}},
		{"qtk r13 r9 r5 !12", api.Ins{Op: api.Qtk, A: 13, B: 9, C: 5, M: 12}},
		{"slp r8", api.Ins{Op: api.Slp, A: 8}},
		{"inj", api.Ins{Op: api.Inj}},
		{"get r25 r24", api.Ins{Op: api.Get, A: 25, B: 24}},
		{"get r1 4", api.Ins{Op: api.Get, A: 1, B: -1, V: 4}},
		{"get r1 0 !5>0", api.Ins{Op: api.Get, A: 1, B: -1, M: 5, When: 2}},
		{"obj r2 r1 1 !5", api.Ins{Op: api.Obj, A: 2, B: 1, V: 1, M: 5}},
		{"tnw r2 r0 r1 !1", api.Ins{Op: api.Tnw, A: 2, C: 1, M: 1}},
		{"fin", api.Ins{Op: api.Fin}},
	} {
		reads(t, r.text, r.x)
	}
}

// TestEachOperation writes each operation in its canonical form, with the edges of its fields.
func TestEachOperation(t *testing.T) {
	r := rand.New(rand.NewSource(1))
	for op, f := range forms(t) {
		for range 300 {
			x := f.any(r, op, 1)
			reads(t, "p0:\n"+f.line(x), x)
		}
	}
}

// TestSyntaxAlone tests that what is a matter of package code is not refused here.
func TestSyntaxAlone(t *testing.T) {
	reads(t, "call 1000", api.Ins{Op: api.Call, V: 1000})
	reads(t, "call 18446744073709551615 !1", api.Ins{Op: api.Call, V: top, M: 1})
	reads(t, "ret !7=0", api.Ins{Op: api.Ret, M: 7, When: 1})
	reads(t, "fin\ncall 1", api.Ins{Op: api.Fin}, api.Ins{Op: api.Call, V: 1})
	reads(t, "obj r0 r1 99", api.Ins{Op: api.Obj, B: 1, V: 99})
}

// TestLines lays two instructions out in all ways.
func TestLines(t *testing.T) {
	want := []api.Ins{{Op: api.Set, A: 1, V: 5}, {Op: api.Ret}}
	for _, text := range []string{
		"set r1 5\nret", "set r1 5\nret\n", "\n\nset r1 5\n\n\nret\n\n", "  set   r1  5  \n ret ", "   \nset r1 5\n   \nret\n   ",
		"set r1 5; and\nret;", "set r1 5 ; a;b\nret ;ret", ";\n;;\nset r1 5\n; set r2 5\n  ;\nret\n;", "set r1 5;\nret; \x00\xff\t\r", "set r1 5;\\\nret",
	} {
		reads(t, text, want...)
	}
	for _, text := range []string{"", "\n", "\n\n\n", "    ", " \n ", ";", "; ret", " ; ret\n;ret\n"} {
		if l, labels := read(t, text); len(l) > 0 || len(labels) > 0 {
			t.Errorf("%q gives %v and %v", text, l, labels)
		}
	}
}

// TestOtherBlanks tests that only byte 32 separates words, and only byte 10 lines.
func TestOtherBlanks(t *testing.T) {
	for _, c := range []string{"\t", "\r", "\v", "\f", "\x00", "\u00a0", "\u0085", "\u2003", "\xa0", "\x85", "\xff", ",", "#", "//"} {
		failed(t, refused(t, "mov r1"+c+"r2"), 0, api.ErrText)
		failed(t, refused(t, "mov r1 r2"+c), 0, api.ErrText)
		failed(t, refused(t, c+"ret"), 0, api.ErrText)
		failed(t, refused(t, "ret"+c), 0, api.ErrText)
		failed(t, refused(t, "ret "+c), 0, api.ErrText)
		failed(t, refused(t, "ret\n"+c), 1, api.ErrText)
		failed(t, refused(t, "a"+c+":\nret"), 0, api.ErrText)
		failed(t, refused(t, "a: "+c+"\nret"), 0, api.ErrText)
		failedWithin(t, refused(t, "set r1 5"+c), 0, "5"+c)
	}
	reads(t, "ret;\r\nret", api.Ins{Op: api.Ret}, api.Ins{Op: api.Ret})
	failed(t, refused(t, "ret\r\nret"), 0, api.ErrText)
}

func TestLabels(t *testing.T) {
	l, labels := read(t, "zeta:\n alpha: ; one more\nset r1 zeta\n\njz r1 mid\nmid:;\njmp alpha\nset:\nset r2 set\nend:\nret:\njsr end\njnz r4 ret !2>0\nset r3 mid !4\n")
	want := []api.Ins{
		{Op: api.Set, A: 1, V: 0}, {Op: api.Jz, A: 1, V: 2}, {Op: api.Jmp, V: 0}, {Op: api.Set, A: 2, V: 3},
		{Op: api.Jsr, V: 4}, {Op: api.Jnz, A: 4, V: 4, M: 2, When: 2}, {Op: api.Set, A: 3, V: 2, M: 4},
	}
	if !slices.Equal(l, want) {
		t.Errorf("%v, not %v", l, want)
	}
	wantLabels := []asm.Label{{"zeta", 0}, {"alpha", 0}, {"mid", 2}, {"set", 3}, {"end", 4}, {"ret", 4}}
	if !slices.Equal(labels, wantLabels) {
		t.Errorf("%v, not %v", labels, wantLabels)
	}
}

// TestManyLabels defines as many labels as a text has room for, all of one instruction, and uses the last.
func TestManyLabels(t *testing.T) {
	text, n := strings.Builder{}, 0
	for ; text.Len() < api.MaxText-20; n++ {
		text.WriteString("l" + strconv.Itoa(n) + ":\n")
	}
	text.WriteString("jmp l" + strconv.Itoa(n-1) + "\n")
	l, labels := read(t, text.String())
	if len(labels) != n || !slices.Equal(l, []api.Ins{{Op: api.Jmp}}) {
		t.Fatalf("%d labels of %d, and %v", len(labels), n, l)
	}
	for i, x := range labels {
		if x != (asm.Label{Name: "l" + strconv.Itoa(i)}) {
			t.Fatalf("%v at %d", x, i)
		}
	}
	failed(t, refused(t, text.String()+"l7:"), n+1, api.ErrText)
}

func TestNames(t *testing.T) {
	for _, name := range []string{"a", "z", "r", "r32", "r99", "r00", "r07", "r031", "r1a", "r0x1", "rr1", "x0", "a1b2c3", "set", "fin", "p0", "z9", "abcdefghijklmnop", "a123456789012345", "rrrrrrrrrrrrrrrr"} {
		reads(t, "ret\n"+name+":\njmp "+name+"\njz r1 "+name+" !3\nset r1 "+name,
			api.Ins{Op: api.Ret}, api.Ins{Op: api.Jmp, V: 1}, api.Ins{Op: api.Jz, A: 1, V: 1, M: 3}, api.Ins{Op: api.Set, A: 1, V: 1})
		failed(t, refused(t, "\nset r1 "+name), 1, api.ErrNone)
		failed(t, refused(t, "ret\njsr "+name), 1, api.ErrNone)
	}
	for _, name := range []string{"r0", "r9", "r10", "r31", "0", "5", "9a", "0x1", "A", "aB", "loop1X", "a_b", "a-b", "a.b", "a:", ":a", "[a]", "!a", "!7", "ä", "aä", "a\xff", "a\x00", "a+", "a`", "a{", "a/", "abcdefghijklmnopq", "a1234567890123456", "+", "=", "é"} {
		failed(t, refused(t, "ret\n"+name+":\nret"), 1, api.ErrText)
		failed(t, refused(t, "ret\njmp "+name), 1, api.ErrText)
		failed(t, refused(t, "ret\njnz r1 "+name), 1, api.ErrText)
		if _, err := word.Parse(name); err != nil {
			failedWithin(t, refused(t, "ret\nset r1 "+name), 1, name)
		}
	}
	for _, text := range []string{":", "::", "a::", "a: :", "a :", "a: b:", "a: ret", "ret a:", ": a"} {
		failed(t, refused(t, text+"\nret"), 0, api.ErrText)
	}
}

func TestNoRegisters(t *testing.T) {
	for _, w := range []string{"r", "r32", "r33", "r99", "r100", "r00", "r01", "r031", "r310", "r0x1", "r-1", "r+1", "R1", "1", "x1", "rr1", "r1r", "r1,", "[r1]", "r18446744073709551617", "r4294967297", "R", "a", "!1"} {
		for _, text := range []string{"mov " + w + " r1", "mov r1 " + w, "qpt r1 r2 " + w, "slp " + w, "set " + w + " 5", "jz " + w + " a\na:\nret", "cas r1 [5] " + w, "ld " + w + " [5]", "obj r1 " + w + " 4", "get " + w + " 4", "add r1 " + w + " 4"} {
			failed(t, refused(t, text), 0, api.ErrText)
		}
	}
	for _, w := range []string{"r32", "r01", "R1", "a", "-1", "+5", "5r", "0x", "r", "18446744073709551616", "0x1g", "[5]", "!5"} {
		failedWithin(t, refused(t, "add r1 r2 "+w), 0, w)
		failedWithin(t, refused(t, "ret\nget r1 "+w), 1, w)
	}
}

func TestNumbers(t *testing.T) {
	for w, v := range map[string]uint64{"0": 0, "00": 0, "7": 7, "007": 7, "00000000000000000007": 7, "18446744073709551615": top, "0x0": 0, "0x00000000000000ff": 255, "0xFFFFFFFFFFFFFFFF": top, "0xaBc": 0xabc} {
		reads(t, "set r1 "+w, api.Ins{Op: api.Set, A: 1, V: v})
		reads(t, "or r1 r2 "+w, api.Ins{Op: api.Or, A: 1, B: 2, C: -1, V: v})
		reads(t, "get r1 "+w, api.Ins{Op: api.Get, A: 1, B: -1, V: v})
		reads(t, "obj r1 r2 "+w, api.Ins{Op: api.Obj, A: 1, B: 2, V: v})
		reads(t, "call "+w, api.Ins{Op: api.Call, V: v})
		reads(t, "ld r1 ["+w+"]", api.Ins{Op: api.Ld, A: 1, B: -1, V: v})
		reads(t, "ld r1 [r2+"+w+"]", api.Ins{Op: api.Ld, A: 1, B: 2, V: v})
	}
	for _, w := range []string{"-1", "+1", "1a", "12a4", "0x", "0xg", "0X1", "0x1x", "1.0", "1_0", "1e3", "18446744073709551616", "99999999999999999999", "000000000000000000001", "0x10000000000000000", "0x00000000000000001", "\xff", "5\x00", "'a'", "A", "(5)", "1:", "[1"} {
		failedWithin(t, refused(t, "set r1 "+w), 0, w)
		failedWithin(t, refused(t, "\nlt r1 r2 "+w), 1, w)
		failedWithin(t, refused(t, "\n\nobj r1 r2 "+w), 2, w)
		failedWithin(t, refused(t, "ret\ncall "+w), 1, w)
		if !strings.Contains(w, "+") {
			failedWithin(t, refused(t, "ret\nld r1 ["+w+"]"), 1, w)
		}
		failedWithin(t, refused(t, "ret\nld r1 [r2+"+w+"]"), 1, w)
	}
	// A label has no place where a number is required.
	failedWithin(t, refused(t, "a:\ncall a"), 1, "a")
	failedWithin(t, refused(t, "a:\nadd r1 r2 a"), 1, "a")
	failedWithin(t, refused(t, "a:\nobj r1 r2 a"), 1, "a")
	failedWithin(t, refused(t, "a:\nobj r1 r2 r3"), 1, "r3")
	failedWithin(t, refused(t, "a:\ncall r3"), 1, "r3")
	failedWithin(t, refused(t, "a:\nset r1 r3"), 1, "r3")
	failedWithin(t, refused(t, "a:\nget r1 a"), 1, "a")
	failedWithin(t, refused(t, "a:\nld r1 [a]"), 1, "a")
	failedWithin(t, refused(t, "a:\nld r1 [r1+a]"), 1, "a")
}

func TestCells(t *testing.T) {
	for w, want := range map[string]api.Ins{
		"[5]": {B: -1, V: 5}, "[0x1f]": {B: -1, V: 31}, "[r0]": {}, "[r31]": {B: 31}, "[r3+5]": {B: 3, V: 5}, "[r3+0]": {B: 3}, "[r3+0x10]": {B: 3, V: 16},
	} {
		for op, name := range map[int]string{api.Ld: "ld", api.St: "st", api.Swp: "swp", api.Fad: "fad", api.Lay: "lay"} {
			x := want
			x.Op, x.A = op, 7
			reads(t, name+" r7 "+w, x)
		}
		for op, name := range map[int]string{api.Cas: "cas", api.Tak: "tak"} {
			x := want
			x.Op, x.A, x.C = op, 7, 8
			reads(t, name+" r7 "+w+" r8", x)
		}
	}
	for _, w := range []string{"5", "r5", "r3+5", "[", "]", "][", "[5", "5]", "[r3", "r3]", "(5)", "{5}", "[5](", "x[5]", "[5]x", "[+5]", "[+]", "[5+5]", "[5+r3]", "[r32+5]", "[r03+5]", "[a+5]", "[[r3]+5]", "[[r3+5]", "[5+]", "a", "!5", "5+[r3]"} {
		failed(t, refused(t, "ld r1 "+w), 0, api.ErrText)
		failed(t, refused(t, "\ncas r1 "+w+" r2"), 1, api.ErrText)
	}
	for w, bad := range map[string]string{
		"[]": "", "[a]": "a", "[r32]": "r32", "[r05]": "r05", "[5x]": "5x", "[[5]]": "[5]", "[[r3]]": "[r3]", "[[]": "[", "[]]": "]", "[-5]": "-5", "[18446744073709551616]": "18446744073709551616",
		"[r3+]": "", "[r3+r4]": "r4", "[r3+5+6]": "5+6", "[r3++5]": "+5", "[r3+a]": "a", "[r3+-5]": "-5", "[r3+5]]": "5]", "[r3-5]": "r3-5", "[R3]": "R3",
	} {
		failedWithin(t, refused(t, "ret\nld r1 "+w), 1, bad)
		failedWithin(t, refused(t, "tak r1 "+w+" r2 !5"), 0, bad)
	}
	for _, text := range []string{"ld r1 [r3 + 5]", "ld r1 [ 5 ]", "ld r1 [5 ]", "ld r1 [r3 +5]", "cas r1 r2 [5]", "cas [5] r1 r2", "ld [5] r1"} {
		failed(t, refused(t, text), 0, api.ErrText)
	}
}

func TestMarks(t *testing.T) {
	for w, want := range map[string]api.Ins{
		"!1": {M: 1}, "!7": {M: 7}, "!99": {M: 99}, "!7=0": {M: 7, When: 1}, "!7>0": {M: 7, When: 2}, "!007": {M: 7}, "!0x63>0": {M: 99, When: 2}, "!00000000000000000001=0": {M: 1, When: 1}, "!10": {M: 10}, "!10=0": {M: 10, When: 1}, "!20>0": {M: 20, When: 2},
	} {
		x := want
		x.Op, x.A = api.Slp, 8
		reads(t, "slp r8 "+w, x)
		reads(t, " slp  r8  "+w+" ;"+w, x)
		x.A, x.Op = 0, api.End
		reads(t, "end "+w, x)
		x.Op = api.Jmp
		reads(t, "a:\njmp a "+w, x)
		x.Op, x.A, x.B, x.C, x.V = api.Cas, 1, -1, 2, 3
		reads(t, "cas r1 [3] r2 "+w, x)
	}
	for _, w := range []string{"!0", "!00", "!0x0", "!0=0", "!0>0", "!100", "!100=0", "!0x64>0", "!18446744073709551615", "!4294967297", "!18446744073709551615>0"} {
		failed(t, refused(t, "ret\nslp r8 "+w), 1, api.ErrText)
		failed(t, refused(t, "fin "+w), 0, api.ErrText)
	}
	for w, bad := range map[string]string{
		"!": "", "!=0": "", "!>0": "", "!a": "a", "!7=1": "7=1", "!7=": "7=", "!7>": "7>", "!7>00": "7>00", "!7=0=0": "7=0", "!7>0=0": "7>0", "!7=0>0": "7=0", "!7<0": "7<0", "!7!=0": "7!", "!!7": "!7", "!-7": "-7", "!+7": "+7", "!r7": "r7", "!7==0": "7=", "!0x=0": "0x", "!18446744073709551616": "18446744073709551616", "!000000000000000000007": "000000000000000000007", "!=0=0": "=0", "!7x>0": "7x",
	} {
		failedWithin(t, refused(t, "ret\nslp r8 "+w), 1, bad)
		failedWithin(t, refused(t, "fin "+w), 0, bad)
	}
	// A mark is the one word that may follow, and but once; it is no operand.
	for _, text := range []string{"ret 7", "ret =0", "slp r8 7", "slp r8 7!", "slp r8 r9", "ret !7 !8", "ret !7 =0", "slp !7 r8", "!7 ret", "!7", "slp !7", "jmp !7", "mov r1 !7", "ld r1 !7", "slp !7 !7"} {
		failed(t, refused(t, text), 0, api.ErrText)
	}
	failedWithin(t, refused(t, "set r1 !7"), 0, "!7")
	failedWithin(t, refused(t, "call !7"), 0, "!7")
	failedWithin(t, refused(t, "add r1 r2 !7"), 0, "!7")
	failedWithin(t, refused(t, "set r1 !7 !7"), 0, "!7")
}

// P5.1: which error is the first

// TestWordCounts leaves words away from each operation, and adds words.
func TestWordCounts(t *testing.T) {
	r := rand.New(rand.NewSource(2))
	for op, f := range forms(t) {
		x := f.any(r, op, 1)
		x.M, x.When = 0, 0
		words := strings.Split(f.line(x), " ")
		for n := range words[1:] {
			failed(t, refused(t, strings.Join(words[:n+1], " ")), 0, api.ErrText)
		}
		for _, more := range []string{" r1", " 5", " a", " [5]", " 7!", " r1 r1", " !7 !7", " !7 5", " 5 !7", " !! !! !!"} {
			failed(t, refused(t, "p0:\n"+f.line(x)+more), 1, api.ErrText)
		}
		x.M = 7
		reads(t, "p0:\n"+f.line(x), x)
	}
}

func TestNoOperations(t *testing.T) {
	for _, w := range []string{"Set", "SET", "sets", "se", "last", "nop", "set:", "b", "add3", "r1", "5", "!", "!5", "[5]", "adds", "mo", "retu", "kret", "\x00", "call5"} {
		for _, rest := range []string{" r1 5", " r1", " r1 r2 r3", " 5"} {
			failed(t, refused(t, "ret\n\n"+w+rest), 2, api.ErrText)
		}
	}
	for _, w := range []string{"Ret", "RET", "rets", "re", "last", "nop", "none", "r1", "5", "!5", "fi", "en", "end,", "yield"} {
		failed(t, refused(t, w), 0, api.ErrText)
	}
}

// TestOrderInLine takes the errors away, one by one, from lines that have several. Which of two errors of one kind is told is to be seen by what it wraps.
func TestOrderInLine(t *testing.T) {
	// The number of words comes ahead of operands and mark.
	failed(t, refused(t, "set r1 5x 7"), 0, api.ErrText)
	failed(t, refused(t, "call"), 0, api.ErrText)
	failed(t, refused(t, "call 5x x"), 0, api.ErrText)
	failed(t, refused(t, "call 5x !7 !7x"), 0, api.ErrText)
	// Operands come from left to right, the mark last.
	failed(t, refused(t, "set R1 5x !7x"), 0, api.ErrText)
	failedWithin(t, refused(t, "set r1 5x !7yy"), 0, "5x")
	failedWithin(t, refused(t, "set r1 5 !77yy"), 0, "77yy")
	failed(t, refused(t, "add r1 R2 5x"), 0, api.ErrText)
	failedWithin(t, refused(t, "add r1 r2 5x"), 0, "5x")
	failed(t, refused(t, "cas R1 [5x] R2 !7x"), 0, api.ErrText)
	failedWithin(t, refused(t, "cas r1 [5x] R2 !7xx"), 0, "5x")
	failed(t, refused(t, "cas r1 [5] R2 !7x"), 0, api.ErrText)
	failedWithin(t, refused(t, "cas r1 [5] r2 !7x"), 0, "7x")
	failed(t, refused(t, "jz r1 5x !7x"), 0, api.ErrText)
	failedWithin(t, refused(t, "jz r1 nowhere !7x"), 0, "7x")
	failed(t, refused(t, "obj r1 R2 5x"), 0, api.ErrText)
	failed(t, refused(t, "get R1 5x"), 0, api.ErrText)
	// In brackets, too.
	failed(t, refused(t, "ld r1 [R2+5x]"), 0, api.ErrText)
	failedWithin(t, refused(t, "ld r1 [r2+5x]"), 0, "5x")
}

// TestOrderOfLines takes the errors away, line by line, and then those that only the whole text shows.
func TestOrderOfLines(t *testing.T) {
	lines := []string{"start:", "jmp gone", "9:", "frob", "ret ret", "set r1 5x", "start:", "set r2 lost", "ret !0", "last:", "tail:"}
	failed(t, refused(t, strings.Join(lines, "\n")), 2, api.ErrText)
	lines[2] = ";"
	failed(t, refused(t, strings.Join(lines, "\n")), 3, api.ErrText)
	lines[3] = ""
	failed(t, refused(t, strings.Join(lines, "\n")), 4, api.ErrText)
	lines[4] = "ret"
	failedWithin(t, refused(t, strings.Join(lines, "\n")), 5, "5x")
	lines[5] = "set r1 5"
	failed(t, refused(t, strings.Join(lines, "\n")), 6, api.ErrText)
	lines[6] = "  "
	failed(t, refused(t, strings.Join(lines, "\n")), 8, api.ErrText)
	lines[8] = strings.Repeat("ret;\n", api.MaxCode)
	failed(t, refused(t, strings.Join(lines, "\n")), 1, api.ErrNone)
	lines[1] = "jmp start"
	failed(t, refused(t, strings.Join(lines, "\n")), 7, api.ErrNone)
	lines[7] = "set r2 last"
	failed(t, refused(t, strings.Join(lines, "\n")), 0, api.ErrRoom)
	lines[8] = "ret"
	failed(t, refused(t, strings.Join(lines, "\n")), 9, api.ErrText)
	lines[9] = "last:\nret"
	failed(t, refused(t, strings.Join(lines, "\n")), 11, api.ErrText)
	lines[10] = "tail:\nret"
	read(t, strings.Join(lines, "\n"))
}

func TestLabelsTwice(t *testing.T) {
	failed(t, refused(t, "a:\na:\nret"), 1, api.ErrText)
	failed(t, refused(t, "a:\nret\nb:\n\na: ; again\nret"), 4, api.ErrText)
	read(t, "a:\naa:\nret")
}

func TestLabelsNotDefined(t *testing.T) {
	failed(t, refused(t, "jmp a"), 0, api.ErrNone)
	failed(t, refused(t, "a:\njmp a\n\nset r1 b\njmp c"), 3, api.ErrNone)
	failed(t, refused(t, "jmp b\nset r1 a\na:\nret"), 0, api.ErrNone)
	failed(t, refused(t, "jsr a\nset r1 b\nb:\nret"), 0, api.ErrNone)
	failed(t, refused(t, "jz r1 ab\nabc:\na:\nret"), 0, api.ErrNone)
}

func TestLabelsAtTheEnd(t *testing.T) {
	failed(t, refused(t, "a:"), 0, api.ErrText)
	failed(t, refused(t, "ret\n\na:\n;\nb:\n"), 2, api.ErrText)
	failed(t, refused(t, "b:\njmp a\na:"), 2, api.ErrText)
	failed(t, refused(t, "jmp a\na:\njmp b"), 2, api.ErrNone)
	failed(t, refused(t, "x:\njmp x\ny:\nz: ;ret"), 2, api.ErrText)
}

func TestLongTexts(t *testing.T) {
	long := "ret\n" + strings.Repeat(" ", api.MaxText-4)
	reads(t, long, api.Ins{Op: api.Ret})
	failed(t, refused(t, long+" "), 0, api.ErrRoom)
	reads(t, "ret;"+strings.Repeat("\n", api.MaxText-4), api.Ins{Op: api.Ret})
	failed(t, refused(t, strings.Repeat("\n", api.MaxText+1)), 0, api.ErrRoom)
	failed(t, refused(t, "frob\n"+strings.Repeat("x", api.MaxText)), 0, api.ErrRoom)
	failed(t, refused(t, strings.Repeat("\n", api.MaxText-1)+"x"), api.MaxText-1, api.ErrText)
	failed(t, refused(t, strings.Repeat("x", api.MaxText)), 0, api.ErrText)
	failed(t, refused(t, strings.Repeat("\n", api.MaxText-6)+"jmp a"), api.MaxText-6, api.ErrNone)
}

func TestManyInstructions(t *testing.T) {
	reads(t, strings.Repeat("ret\n", api.MaxCode), rets(api.MaxCode)...)
	failed(t, refused(t, strings.Repeat("ret\n", api.MaxCode+1)), 0, api.ErrRoom)
	failed(t, refused(t, strings.Repeat("ret\n", api.MaxText/4)), 0, api.ErrRoom)
	l, labels := read(t, strings.Repeat("ret\n", api.MaxCode-1)+"z:\njmp z")
	if len(l) != api.MaxCode || l[api.MaxCode-1] != (api.Ins{Op: api.Jmp, V: api.MaxCode - 1}) || !slices.Equal(labels, []asm.Label{{"z", api.MaxCode - 1}}) {
		t.Errorf("%d instructions, %v", len(l), labels)
	}
	failed(t, refused(t, strings.Repeat("ret\n", api.MaxCode)+"z:"), api.MaxCode, api.ErrText)
	failed(t, refused(t, strings.Repeat("ret\n", api.MaxCode+1)+"frob"), api.MaxCode+1, api.ErrText)
}

// P5.1: against the chapter's words, taken as patterns

var (
	isRegister = regexp.MustCompile(`^r([0-9]|[12][0-9]|3[01])$`)
	isName     = regexp.MustCompile(`^[a-z][a-z0-9]{0,15}$`)
	isSum      = regexp.MustCompile(`(?s)^\[([^+]*)\+(.*)\]$`)
	isCell     = regexp.MustCompile(`(?s)^\[([^+]*)\]$`)
	isMark     = regexp.MustCompile(`(?s)^!(.*?)(=0|>0)?$`)
)

func named(w string) bool { return isName.MatchString(w) && !isRegister.MatchString(w) }

// wrongNumber is what is told of a word that should be a number.
func wrongNumber(w string) string {
	if _, err := word.Parse(w); err != nil {
		return told(err)
	}
	return ""
}

// wrongOperand is what an operand's error wraps, in words; "" if there is none.
func wrongOperand(field, w string) string {
	wrong := told(api.ErrText)
	switch field {
	case "A", "B", "C":
		if isRegister.MatchString(w) {
			return ""
		}
	case "L":
		if named(w) {
			return ""
		}
	case "B|V", "C|V":
		if isRegister.MatchString(w) {
			return ""
		}
		return wrongNumber(w)
	case "V|L":
		if named(w) {
			return ""
		}
		return wrongNumber(w)
	case "V":
		return wrongNumber(w)
	case "[B+V]":
		if m := isSum.FindStringSubmatch(w); m != nil && isRegister.MatchString(m[1]) {
			return wrongNumber(m[2])
		} else if m := isCell.FindStringSubmatch(w); m != nil {
			return wrongOperand("B|V", m[1])
		}
	case "!":
		m := isMark.FindStringSubmatch(w)
		v, err := word.Parse(m[1])
		if err != nil {
			return told(err)
		}
		if v >= 1 && v <= 99 {
			return ""
		}
	}
	return wrong
}

// wrongWords is what the error of an instruction's words wraps; "" if there is none.
func wrongWords(all map[int]form, words []string) string {
	for _, f := range all {
		if f.name != words[0] {
			continue
		}
		fields := f.fields
		if len(words) == len(fields)+2 && words[len(words)-1][0] == '!' {
			fields = append(slices.Clone(fields), "!")
		}
		if len(words) != len(fields)+1 {
			break
		}
		for i, field := range fields {
			if wrong := wrongOperand(field, words[1+i]); wrong != "" {
				return wrong
			}
		}
		return ""
	}
	return told(api.ErrText)
}

// judge is the error that a text should have, in words.
func judge(all map[int]form, text string) string {
	at := func(n int, wrong string) string { return "asm " + strconv.Itoa(n) + ": " + wrong }
	defined, open := map[string]bool{}, -1
	for n, line := range strings.Split(text, "\n") {
		line, _, _ = strings.Cut(line, ";")
		words := slices.DeleteFunc(strings.Split(line, " "), func(w string) bool { return w == "" })
		if len(words) == 0 {
			continue
		}
		if name := strings.TrimSuffix(words[0], ":"); len(words) == 1 && name != words[0] {
			if !named(name) || defined[name] {
				return at(n, told(api.ErrText))
			}
			defined[name] = true
			if open < 0 {
				open = n
			}
			continue
		}
		if wrong := wrongWords(all, words); wrong != "" {
			return at(n, wrong)
		}
		open = -1
	}
	for n, line := range strings.Split(text, "\n") {
		line, _, _ = strings.Cut(line, ";")
		words := slices.DeleteFunc(strings.Split(line, " "), func(w string) bool { return w == "" })
		for i := range words {
			target := i == 1 && (words[0] == "jmp" || words[0] == "jsr") || i == 2 && (words[0] == "jz" || words[0] == "jnz" || words[0] == "set")
			if target && named(words[i]) && !defined[words[i]] {
				return at(n, told(api.ErrNone))
			}
		}
	}
	if open >= 0 {
		return at(open, told(api.ErrText))
	}
	return told(nil)
}

// anyText is a text of some lines, most of which are valid, or nearly so.
func anyText(r *rand.Rand, all map[int]form) string {
	pick := func(l ...string) string { return l[r.Intn(len(l))] }
	labels := []string{"a", "b", "p0", "p1", "r32"}
	junk := func() string {
		return pick("r1", "r31", "r32", "r01", "5", "0x1f", "0x", "5x", "a", "b", "c", "A", "[5]", "[r1]", "[r1+5]", "[r1+]", "[a]", "[5+5]", "[", "[]", "5]", "!", "!5", "!0", "!100", "!5=0", "!x>0", "!5>1", "a:", ":", "ret", "set", "+", "\t", "r1\t", "18446744073709551616", "[r1+5+5]", "[[5]]")
	}
	lines := []string{}
	for range 1 + r.Intn(8) {
		if r.Intn(3) == 0 {
			lines = append(lines, pick(labels...)+":")
			if r.Intn(4) > 0 { // the same one twice is an error too many
				labels = append(labels[:0], "a", "b", "c"+strconv.Itoa(r.Intn(1000)))
			}
			continue
		}
		op := 1 + r.Intn(api.Last)
		words := strings.Split(all[op].line(all[op].any(r, op, 2)), " ")
		switch r.Intn(12) {
		case 0:
			words[r.Intn(len(words))] = junk()
		case 1:
			words = append(words, junk())
		case 2:
			words = slices.Insert(words, r.Intn(len(words)+1), junk())
		case 3:
			words = words[:r.Intn(len(words))]
		case 4:
			words = append(words, pick(";", "; c", ";:", ""), "x;")
		}
		lines = append(lines, pick("", " ", "  ")+strings.Join(words, pick(" ", " ", "  ")))
	}
	return strings.Join(lines, "\n") + pick("", "\n", "\n\n", "\nret", "\nret\n")
}

func TestAgainstPatterns(t *testing.T) {
	r := rand.New(rand.NewSource(3))
	all := forms(t)
	valid := 0
	for range 60000 {
		text := anyText(r, all)
		want := judge(all, text)
		l, labels, err := asm.Parse(text)
		if told(err) != want {
			t.Fatalf("%q: %s, not %s", text, told(err), want)
		}
		if err != nil && (len(l) > 0 || len(labels) > 0) {
			t.Fatalf("%q gives %v and %v beside %s", text, l, labels, told(err))
		}
		if err == nil {
			valid++
		}
	}
	if valid < 6000 || valid > 50000 {
		t.Errorf("%d texts of 60000 are valid: the others are hardly tried", valid)
	}
}

// P5.2: Print

// prints tests which text a list gives.
func prints(t *testing.T, want string, l ...api.Ins) {
	t.Helper()
	if text, err := asm.Print(l); err != nil || text != want {
		t.Errorf("%v gives %q, %s, not %q", l, text, told(err), want)
	}
}

// unprinted prints a list that has an error, with which no text may come.
func unprinted(t *testing.T, l []api.Ins) error {
	t.Helper()
	text, err := asm.Print(l)
	if err == nil || text != "" {
		t.Errorf("the text is %.200q, %s", text, told(err))
	}
	return err
}

func TestPrintByHand(t *testing.T) {
	prints(t, "")
	prints(t, "ret\n", api.Ins{Op: api.Ret})
	prints(t, "set r31 18446744073709551615\n", api.Ins{Op: api.Set, A: 31, V: top})
	prints(t, "add r1 r2 r0\nadd r1 r2 0\nadd r1 r2 5\n", api.Ins{Op: api.Add, A: 1, B: 2}, api.Ins{Op: api.Add, A: 1, B: 2, C: -1}, api.Ins{Op: api.Add, A: 1, B: 2, C: -1, V: 5})
	prints(t, "ld r1 [r0]\nld r1 [r0+5]\nld r1 [5]\nld r1 [0]\nst r1 [r3+18446744073709551615]\n",
		api.Ins{Op: api.Ld, A: 1}, api.Ins{Op: api.Ld, A: 1, V: 5}, api.Ins{Op: api.Ld, A: 1, B: -1, V: 5}, api.Ins{Op: api.Ld, A: 1, B: -1}, api.Ins{Op: api.St, A: 1, B: 3, V: top})
	prints(t, "cas r1 [r2+3] r4 !7=0\ntak r1 [3] r4 !99>0\n", api.Ins{Op: api.Cas, A: 1, B: 2, C: 4, V: 3, M: 7, When: 1}, api.Ins{Op: api.Tak, A: 1, B: -1, C: 4, V: 3, M: 99, When: 2})
	prints(t, "get r1 4\nget r1 r0\nget r1 0\nobj r2 r1 1 !5\ncall 0\ncall 999\n",
		api.Ins{Op: api.Get, A: 1, B: -1, V: 4}, api.Ins{Op: api.Get, A: 1}, api.Ins{Op: api.Get, A: 1, B: -1}, api.Ins{Op: api.Obj, A: 2, B: 1, V: 1, M: 5}, api.Ins{Op: api.Call}, api.Ins{Op: api.Call, V: 999})
	prints(t, "ret !10\nfin !1\nqtk r13 r9 r5 !12\n", api.Ins{Op: api.Ret, M: 10}, api.Ins{Op: api.Fin, M: 1}, api.Ins{Op: api.Qtk, A: 13, B: 9, C: 5, M: 12})
}

func TestPrintLabels(t *testing.T) {
	prints(t, "p0:\njmp p0\n", api.Ins{Op: api.Jmp})
	prints(t, "set r1 2\np1:\njz r2 p3\nset r1 0\np3:\njsr p1\np4:\njnz r4 p4 !3>0\njmp p3 !7\n",
		api.Ins{Op: api.Set, A: 1, V: 2}, api.Ins{Op: api.Jz, A: 2, V: 3}, api.Ins{Op: api.Set, A: 1}, api.Ins{Op: api.Jsr, V: 1}, api.Ins{Op: api.Jnz, A: 4, V: 4, M: 3, When: 2}, api.Ins{Op: api.Jmp, V: 3, M: 7})
	l := rets(api.MaxCode)
	l[5] = api.Ins{Op: api.Jz, A: 1, V: api.MaxCode - 1}
	prints(t, strings.Repeat("ret\n", 5)+"jz r1 p2047\n"+strings.Repeat("ret\n", api.MaxCode-7)+"p2047:\nret\n", l...)
	// Other numbers that are indexes are no targets.
	prints(t, "set r1 1\ncall 1\nadd r1 r1 1\nld r1 [1]\nget r1 1\n", api.Ins{Op: api.Set, A: 1, V: 1}, api.Ins{Op: api.Call, V: 1}, api.Ins{Op: api.Add, A: 1, B: 1, C: -1, V: 1}, api.Ins{Op: api.Ld, A: 1, B: -1, V: 1}, api.Ins{Op: api.Get, A: 1, B: -1, V: 1})
}

// TestPrintEachOperation prints random code, and lays the labels by itself.
func TestPrintEachOperation(t *testing.T) {
	r := rand.New(rand.NewSource(4))
	all := forms(t)
	for range 4000 {
		n := 1 + r.Intn(12)
		l := anyCode(r, all, n)
		targets := map[uint64]bool{}
		for _, x := range l {
			if all[x.Op].has("L") {
				targets[x.V] = true
			}
		}
		want := ""
		for i, x := range l {
			if targets[uint64(i)] {
				want += "p" + strconv.Itoa(i) + ":\n"
			}
			want += all[x.Op].line(x) + "\n"
		}
		prints(t, want, l...)
	}
}

func TestPrintTooMany(t *testing.T) {
	if text, err := asm.Print(rets(api.MaxCode)); err != nil || text != strings.Repeat("ret\n", api.MaxCode) {
		t.Errorf("%d bytes, %s", len(text), told(err))
	}
	failed(t, unprinted(t, rets(api.MaxCode+1)), 0, api.ErrRoom)
	failed(t, unprinted(t, make([]api.Ins, api.MaxCode+1)), 0, api.ErrRoom)
	failed(t, unprinted(t, make([]api.Ins, api.MaxCode)), 0, api.ErrCode)
}

func TestPrintInvalid(t *testing.T) {
	for _, bad := range []api.Ins{
		{}, {Op: -1}, {Op: api.Last + 1}, {Op: math.MaxInt}, {Op: math.MinInt}, {Op: api.Set, A: 32}, {Op: api.Set, A: -1}, {Op: api.Set, B: 1}, {Op: api.Add, A: 1, B: 2, C: 3, V: 5}, {Op: api.Add, B: -1}, {Op: api.Mov, C: -1}, {Op: api.Ld, B: -2}, {Op: api.Cas, C: -1}, {Op: api.Obj, B: -1}, {Op: api.Get, A: 1, B: 2, V: 4},
		{Op: api.Jmp, V: 5}, {Op: api.Jmp, V: top}, {Op: api.Jz, A: 1, V: 1 << 63}, {Op: api.Jnz, V: 5}, {Op: api.Jsr, V: 5}, {Op: api.Jmp, A: 1}, {Op: api.Call, V: 1000}, {Op: api.Call, V: 2, M: 1}, {Op: api.Call, A: 1}, {Op: api.Ret, M: 100}, {Op: api.Ret, M: -1}, {Op: api.Ret, M: 1, When: 1}, {Op: api.Slp, When: 1}, {Op: api.Slp, M: 1, When: 3}, {Op: api.Fin, V: 1},
	} {
		for i := range 5 {
			l := []api.Ins{{Op: api.Call, V: 7}, {Op: api.Slp, M: 7}, {Op: api.Ret}, {Op: api.Jmp, V: 4}, {Op: api.Fin}}
			l[i] = bad
			failed(t, unprinted(t, l), i, api.ErrCode)
			l[4] = api.Ins{}
			failed(t, unprinted(t, l), i, api.ErrCode)
			l[4] = api.Ins{Op: api.Call, V: 1000}
			failed(t, unprinted(t, l), i, api.ErrCode)
		}
	}
}

// TestPrintBySides holds Print against Check, which judges each instruction by itself on both sides.
func TestPrintBySides(t *testing.T) {
	r := rand.New(rand.NewSource(5))
	all := forms(t)
	printed := 0
	for range 10000 {
		n := 1 + r.Intn(6)
		l := anyCode(r, all, n)
		for range r.Intn(3) {
			x := &l[r.Intn(n)]
			switch r.Intn(6) {
			case 0:
				x.Op = r.Intn(api.Last+4) - 1
			case 1:
				x.A = r.Intn(36) - 2
			case 2:
				x.B = r.Intn(36) - 2
			case 3:
				x.C = r.Intn(36) - 2
			case 4:
				x.V = uint64(r.Intn(n + 2))
			case 5:
				x.M, x.When = r.Intn(103)-2, r.Intn(5)-1
			}
		}
		first := slices.IndexFunc(l, func(x api.Ins) bool {
			alone := rets(n)
			alone[0] = x
			return code.Check(alone, false) != nil && code.Check(alone, true) != nil
		})
		if first >= 0 {
			failed(t, unprinted(t, l), first, api.ErrCode)
			continue
		}
		printed++
		if text, err := asm.Print(l); err != nil || text == "" {
			t.Fatalf("%v gives %q, %s", l, text, told(err))
		}
	}
	if printed < 2000 || printed > 8000 {
		t.Errorf("%d lists of 10000 are printed: the others are hardly tried", printed)
	}
}

// P5.2: Find

func TestFind(t *testing.T) {
	l := []asm.Label{{"a", 3}, {"b", 0}, {"a", 5}, {"", 7}, {"No Name", -4}, {"ab", 9}, {"last", math.MaxInt}, {"b", 1}}
	for name, want := range map[string]int{"a": 3, "b": 0, "": 7, "No Name": -4, "ab": 9, "last": math.MaxInt} {
		if at, is := asm.Find(l, name); at != want || !is {
			t.Errorf("%q: %d %v, not %d", name, at, is, want)
		}
	}
	for _, name := range []string{"c", "A", "aa", "a ", "abc", "a:", "no name", "las"} {
		if at, is := asm.Find(l, name); at != 0 || is {
			t.Errorf("%q: %d %v", name, at, is)
		}
	}
	for _, none := range [][]asm.Label{nil, {}} {
		for _, name := range []string{"", "a"} {
			if at, is := asm.Find(none, name); at != 0 || is {
				t.Errorf("%q: %d %v", name, at, is)
			}
		}
	}
	_, labels := read(t, "one:\nret\ntwo:\nthree:\nret\n")
	for name, want := range map[string]int{"one": 0, "two": 1, "three": 1} {
		if at, is := asm.Find(labels, name); at != want || !is {
			t.Errorf("%q: %d %v, not %d", name, at, is, want)
		}
	}
}

// P5.3

// TestThereAndBack parses what Print returns, in code of both sides and of all lengths.
func TestThereAndBack(t *testing.T) {
	r := rand.New(rand.NewSource(6))
	all := forms(t)
	for i := range 3000 {
		n := r.Intn(20)
		if i%300 == 0 {
			n = 1000 + r.Intn(200)
		}
		l := anyCode(r, all, n)
		text, err := asm.Print(l)
		fine(t, err)
		again, labels := read(t, text)
		if !slices.Equal(again, l) {
			t.Fatalf("%v comes back as %v", l, again)
		}
		for _, x := range labels {
			if x.Name != "p"+strconv.Itoa(x.At) {
				t.Errorf("the label %v", x)
			}
		}
		if printed, err := asm.Print(again); err != nil || printed != text {
			t.Fatalf("%q comes back as %q", text, printed)
		}
	}
}

// TestMostThatComesBack takes the most instructions whose text Parse still accepts by its length, and the longest text that there is.
func TestMostThatComesBack(t *testing.T) {
	l := rets(api.MaxCode)
	for i := range l {
		l[i] = api.Ins{Op: api.Jz, A: 31, V: uint64(i), M: 99, When: 2}
	}
	text, err := asm.Print(l)
	fine(t, err)
	if len(text) > api.MaxText {
		t.Fatalf("%d bytes", len(text))
	}
	reads(t, text, l...)
	for i := range l {
		l[i] = api.Ins{Op: api.Cas, A: 31, B: 31, C: 31, V: top, M: 99, When: 2}
	}
	text, err = asm.Print(l)
	fine(t, err)
	line := "cas r31 [r31+18446744073709551615] r31 !99>0\n"
	if text != strings.Repeat(line, api.MaxCode) {
		t.Errorf("%d bytes, not %d", len(text), len(line)*api.MaxCode)
	}
	reads(t, strings.Repeat(line, api.MaxText/len(line)), l[:api.MaxText/len(line)]...)
}

// freely writes code with other numerals, names, blanks and comments than Print.
func freely(r *rand.Rand, all map[int]form, l []api.Ins) (string, []asm.Label) {
	pick := func(l ...string) string { return l[r.Intn(len(l))] }
	blank := func() string { return pick("", "", " ", "   ") }
	numeral := func(v uint64) string {
		hex := strconv.FormatUint(v, 16)
		return pick(number(v), "0x"+hex, "0x"+strings.ToUpper(hex), strings.Repeat("0", 20-len(number(v)))+number(v), "0x"+strings.Repeat("0", 16-len(hex))+hex)
	}
	name := func(at uint64) string { return "n" + number(at) + "x" }
	text, labels := "", []asm.Label{}
	for i, x := range l {
		labels = append(labels, asm.Label{Name: name(uint64(i)), At: i})
		text += blank() + name(uint64(i)) + ":" + blank() + pick("", ";", "; x:") + "\n" + pick("", "\n", "; ret\n")
		words := strings.Split(all[x.Op].line(x), " ")
		for j := 1; j < len(words); j++ {
			switch w := words[j]; {
			case w[0] == 'p':
				words[j] = name(x.V)
			case w == number(x.V):
				if words[j] = numeral(x.V); x.Op == api.Set && x.V < uint64(len(l)) && r.Intn(2) == 0 {
					words[j] = name(x.V)
				}
			case w[0] == '[' && x.B >= 0:
				words[j] = "[" + register(x.B) + "+" + numeral(x.V) + "]"
			case w[0] == '[':
				words[j] = "[" + numeral(x.V) + "]"
			}
			words[j] = blank() + words[j]
		}
		text += blank() + strings.Join(words, " ") + blank() + pick("", ";", "; x", ";!7") + "\n"
	}
	return text, labels
}

func TestWrittenFreely(t *testing.T) {
	r := rand.New(rand.NewSource(7))
	all := forms(t)
	for range 3000 {
		l := anyCode(r, all, 1+r.Intn(12))
		text, labels := freely(r, all, l)
		again, found := read(t, text)
		if !slices.Equal(again, l) || !slices.Equal(found, labels) {
			t.Fatalf("%q gives %v and %v, not %v and %v", text, again, found, l, labels)
		}
	}
}

// R3 and R4

// TestArgumentsStayAsTheyWere passes slices with spare capacity, and asks twice.
func TestArgumentsStayAsTheyWere(t *testing.T) {
	l := []api.Ins{{Op: api.Jz, A: 1, V: 1}, {Op: api.Call, V: 5}, {Op: api.Slp, M: 3}, {Op: 77}, {Op: 78}}
	was := slices.Clone(l)
	for range 2 {
		prints(t, "jz r1 p1\np1:\ncall 5\nslp r0 !3\n", l[:3]...)
		failed(t, unprinted(t, l[:4]), 3, api.ErrCode)
	}
	labels := []asm.Label{{"a", 1}, {"b", 2}, {"c", 3}}
	if _, is := asm.Find(labels[:2], "c"); is || !slices.Equal(l, was) || !slices.Equal(labels, []asm.Label{{"a", 1}, {"b", 2}, {"c", 3}}) {
		t.Errorf("changed: %v, %v", l, labels)
	}
}

// TestResultsAreTheirOwn changes what came out, spare capacity included, and asks again.
func TestResultsAreTheirOwn(t *testing.T) {
	text := "a:\nset r1 5\nb:\njmp a\n"
	for range 3 {
		l, labels := read(t, text)
		if !slices.Equal(l, []api.Ins{{Op: api.Set, A: 1, V: 5}, {Op: api.Jmp}}) || !slices.Equal(labels, []asm.Label{{"a", 0}, {"b", 1}}) {
			t.Fatalf("%v, %v", l, labels)
		}
		clear(l[:cap(l)])
		clear(labels[:cap(labels)])
	}
}

// TestErrorsAreTheirOwn changes errors that came out, and asks again.
func TestErrorsAreTheirOwn(t *testing.T) {
	for range 2 {
		err := refused(t, "ret\ncall 5x")
		failedWithin(t, err, 1, "5x")
		var at *api.At
		if !errors.As(errors.Unwrap(err), &at) {
			t.Fatal("nothing is wrapped")
		}
		*at = api.At{Layer: "other"}
		err = unprinted(t, []api.Ins{{}})
		failed(t, err, 0, api.ErrCode)
		if errors.As(err, &at) {
			*at = api.At{Layer: "other"}
		}
	}
}
