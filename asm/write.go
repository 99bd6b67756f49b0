package asm

import (
	"errors"
	"slices"

	"distaff/api"
	"distaff/code"
	"distaff/word"
)

// firstInvalid is the index of the first instruction that is valid on neither side, and the length of l if there is none.
func firstInvalid(l []api.Ins) int {
	// Call alone is the clients' own: whatever else they may use, libraries may, too. Ret is valid on both sides.
	calls, others := make([]api.Ins, len(l)), make([]api.Ins, len(l))
	for i, x := range l {
		calls[i].Op, others[i].Op = api.Ret, api.Ret
		if x.Op == api.Call {
			calls[i] = x
		} else {
			others[i] = x
		}
	}
	return min(placeIn(code.Check(calls, false), len(l)), placeIn(code.Check(others, true), len(l)))
}

// placeIn is an error's place, and none if there is no error.
func placeIn(err error, none int) int {
	var at *api.At
	if errors.As(err, &at) {
		return at.N
	}
	return none
}

// targetsOf tells by index which of the instructions are jumped to. They are all valid.
func targetsOf(l []api.Ins) []bool {
	targets := make([]bool, len(l))
	for _, x := range l {
		if slices.Contains(operandsOf(x.Op), inLabel) {
			targets[x.V] = true
		}
	}
	return targets
}

// lineOf is a valid instruction as text.
func lineOf(x api.Ins) string {
	line := names[x.Op]
	for _, o := range operandsOf(x.Op) {
		line += " " + operandText(x, o)
	}
	if x.M != 0 {
		line += " " + markText(x)
	}
	return line
}

func operandText(x api.Ins, o operand) string {
	switch o {
	case inA:
		return registerText(x.A)
	case inBOrV:
		if x.B == -1 {
			return word.Print(x.V)
		}
		fallthrough
	case inB:
		return registerText(x.B)
	case inCOrV:
		if x.C == -1 {
			return word.Print(x.V)
		}
		fallthrough
	case inC:
		return registerText(x.C)
	case inCell:
		return cellText(x)
	case inLabel:
		return nameOf(x.V)
	}
	return word.Print(x.V)
}

func registerText(n int) string { return "r" + word.Print(uint64(n)) }

func cellText(x api.Ins) string {
	switch {
	case x.B == -1:
		return "[" + word.Print(x.V) + "]"
	case x.V == 0:
		return "[" + registerText(x.B) + "]"
	}
	return "[" + registerText(x.B) + "+" + word.Print(x.V) + "]"
}

func markText(x api.Ins) string {
	mark := "!" + word.Print(uint64(x.M))
	switch x.When {
	case 1:
		return mark + "=0"
	case 2:
		return mark + ">0"
	}
	return mark
}

// nameOf is the name of the label before the instruction at that index.
func nameOf(at uint64) string { return "p" + word.Print(at) }
