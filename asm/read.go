package asm

import (
	"strings"

	"distaff/api"
	"distaff/word"
)

// lastMark is the greatest number of a mark.
const lastMark = 99

// reader is what has been read of a text. Its errors have no place yet, unless they are those of finish.
type reader struct {
	line     int
	code     []api.Ins
	labels   []Label
	labelled map[string]place
	uses     []use
}

// place is where a label stands: before which instruction, and on which line.
type place struct {
	at, line int
}

// use is an operand that names a label, which may be defined later.
type use struct {
	name      string
	ins, line int
}

// read takes in one line.
func (r *reader) read(line string) error {
	text, _, _ := strings.Cut(line, ";")
	// Byte 32 alone separates words: what else may look blank belongs to one.
	words := strings.FieldsFunc(text, func(c rune) bool { return c == ' ' })
	if len(words) == 0 {
		return nil
	}
	if name, is := strings.CutSuffix(words[0], ":"); is && len(words) == 1 {
		return r.readLabel(name)
	}
	return r.readIns(words)
}

func (r *reader) readLabel(name string) error {
	if _, was := r.labelled[name]; was || !isName(name) {
		return api.ErrText
	}
	r.labelled[name] = place{at: len(r.code), line: r.line}
	r.labels = append(r.labels, Label{Name: name, At: len(r.code)})
	return nil
}

func (r *reader) readIns(words []string) error {
	op, is := operationOf(words[0])
	if !is {
		return api.ErrText
	}
	x, form, rest := api.Ins{Op: op}, operandsOf(op), words[1:]
	marked := len(rest) == len(form)+1 && strings.HasPrefix(rest[len(form)], "!")
	if len(rest) != len(form) && !marked {
		return api.ErrText
	}
	for i, o := range form {
		if err := r.readOperand(&x, o, rest[i]); err != nil {
			return err
		}
	}
	if marked {
		if err := readMark(&x, rest[len(form)]); err != nil {
			return err
		}
	}
	r.code = append(r.code, x)
	return nil
}

// readOperand puts the operand w into x, which becomes the next instruction.
func (r *reader) readOperand(x *api.Ins, o operand, w string) error {
	switch o {
	case inA:
		return readRegister(&x.A, w)
	case inB:
		return readRegister(&x.B, w)
	case inC:
		return readRegister(&x.C, w)
	case inBOrV:
		return readEither(&x.B, &x.V, w)
	case inCOrV:
		return readEither(&x.C, &x.V, w)
	case inCell:
		return readCell(x, w)
	case inLabel:
		if !isName(w) {
			return api.ErrText
		}
		fallthrough
	case inLabelOrV:
		if isName(w) {
			r.uses = append(r.uses, use{name: w, ins: len(r.code), line: r.line})
			return nil
		}
		fallthrough
	case inV:
		return readNumber(&x.V, w)
	}
	return nil
}

// finish gives the instructions the places of the labels that they name, and tells what only the whole text shows.
func (r *reader) finish() error {
	for _, u := range r.uses {
		p, is := r.labelled[u.name]
		if !is {
			return fault(u.line, api.ErrNone)
		}
		r.code[u.ins].V = uint64(p.at)
	}
	if len(r.code) > api.MaxCode {
		return fault(0, api.ErrRoom)
	}
	for _, l := range r.labels {
		if l.At == len(r.code) {
			return fault(r.labelled[l.Name].line, api.ErrText)
		}
	}
	return nil
}

func readRegister(field *int, w string) error {
	n, is := registerOf(w)
	if !is {
		return api.ErrText
	}
	*field = n
	return nil
}

func readNumber(v *uint64, w string) error {
	n, err := word.Parse(w)
	*v = n
	return err
}

// readEither reads a register, or a number in its place.
func readEither(field *int, v *uint64, w string) error {
	if n, is := registerOf(w); is {
		*field = n
		return nil
	}
	*field = -1
	return readNumber(v, w)
}

func readCell(x *api.Ins, w string) error {
	inner, begun := strings.CutPrefix(w, "[")
	inner, ended := strings.CutSuffix(inner, "]")
	if !begun || !ended {
		return api.ErrText
	}
	register, number, isSum := strings.Cut(inner, "+")
	if !isSum {
		return readEither(&x.B, &x.V, inner)
	}
	if err := readRegister(&x.B, register); err != nil {
		return err
	}
	return readNumber(&x.V, number)
}

// readMark reads a word that begins with !.
func readMark(x *api.Ins, w string) error {
	number := w[1:]
	switch {
	case strings.HasSuffix(number, ">0"):
		x.When++
		fallthrough
	case strings.HasSuffix(number, "=0"):
		x.When++
		number = number[:len(number)-2]
	}
	n, err := word.Parse(number)
	if err != nil {
		return err
	}
	if n < 1 || n > lastMark {
		return api.ErrText
	}
	x.M = int(n)
	return nil
}

// isName reports whether w can be the name of a label.
func isName(w string) bool {
	if len(w) < 1 || len(w) > api.MaxName || !isLetter(w[0]) {
		return false
	}
	for i := range len(w) {
		if !isLetter(w[i]) && (w[i] < '0' || w[i] > '9') {
			return false
		}
	}
	_, is := registerOf(w)
	return !is
}

func isLetter(c byte) bool { return c >= 'a' && c <= 'z' }

// registerOf is the number of the register with that name; it is false if there is none.
func registerOf(w string) (int, bool) {
	digits, is := strings.CutPrefix(w, "r")
	n, err := word.Parse(digits)
	// Numerals have several forms, names of registers but one.
	if !is || err != nil || n >= api.Regs || word.Print(n) != digits {
		return 0, false
	}
	return int(n), true
}
