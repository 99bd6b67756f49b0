package asm

import "distaff/api"

// operand is what a word of an instruction may be, and which of its fields take it.
type operand int

const (
	inA        operand = iota // a register
	inB                       // a register
	inC                       // a register
	inBOrV                    // a register, or a number in its place
	inCOrV                    // a register, or a number in its place
	inCell                    // B and V, or V alone, in brackets
	inLabel                   // the name of a label, whose place V is
	inLabelOrV                // likewise, or a number
	inV                       // a number
)

// names are the operations' words.
var names = [...]string{
	api.Set: "set",
	api.Mov: "mov",
	api.Add: "add",
	api.Sub: "sub",
	api.And: "and",
	api.Or:  "or",
	api.Xor: "xor",
	api.Shl: "shl",
	api.Shr: "shr",
	api.Eq:  "eq",
	api.Lt:  "lt",

	api.Jmp: "jmp",
	api.Jz:  "jz",
	api.Jnz: "jnz",
	api.Jsr: "jsr",
	api.Ret: "ret",

	api.Ld:   "ld",
	api.St:   "st",
	api.Swp:  "swp",
	api.Fad:  "fad",
	api.Cas:  "cas",
	api.Call: "call",

	api.Hsh: "hsh",
	api.Qpt: "qpt",
	api.Qtk: "qtk",
	api.Qmv: "qmv",
	api.Qhs: "qhs",
	api.Slp: "slp",
	api.Hnd: "hnd",
	api.Pik: "pik",
	api.Lay: "lay",
	api.Tak: "tak",
	api.Inj: "inj",
	api.Ijt: "ijt",
	api.Run: "run",
	api.Prk: "prk",
	api.Slf: "slf",
	api.Wrk: "wrk",
	api.Wkd: "wkd",
	api.Wkn: "wkn",
	api.Now: "now",
	api.Drw: "drw",

	api.Get: "get",
	api.Fre: "fre",
	api.Obj: "obj",
	api.Del: "del",
	api.Ckp: "ckp",

	api.Tnw: "tnw",
	api.Tst: "tst",
	api.Thm: "thm",
	api.Tjn: "tjn",
	api.Tdt: "tdt",
	api.Tex: "tex",
	api.Trp: "trp",
	api.End: "end",
	api.Yld: "yld",
	api.Cbk: "cbk",
	api.Fin: "fin",
}

// operationOf is the operation with that name, which is not empty; it is false if there is none.
func operationOf(name string) (int, bool) {
	for op, n := range names {
		if n == name {
			return op, true
		}
	}
	return 0, false
}

// operandsOf are an operation's operands, in the order of its words.
func operandsOf(op int) []operand {
	n, third := 0, inC
	switch op {
	case api.Add, api.Sub, api.And, api.Or, api.Xor, api.Shl, api.Shr, api.Eq, api.Lt:
		third = inCOrV
		fallthrough
	case api.Qpt, api.Qtk, api.Qmv, api.Qhs, api.Tnw:
		n++
		fallthrough
	case api.Mov, api.Hsh, api.Tst, api.Thm, api.Ckp, api.Wkd, api.Trp:
		n++
		fallthrough
	case api.Slp, api.Hnd, api.Pik, api.Ijt, api.Run, api.Prk, api.Slf, api.Wrk, api.Wkn, api.Now, api.Drw, api.Fre, api.Del, api.Tjn, api.Tdt, api.Tex, api.Cbk:
		n++
		fallthrough
	case api.Ret, api.Inj, api.End, api.Yld, api.Fin:
		return []operand{inA, inB, third}[:n]

	case api.Cas, api.Tak:
		n++
		fallthrough
	case api.Ld, api.St, api.Swp, api.Fad, api.Lay:
		return []operand{inA, inCell, inC}[:2+n]

	case api.Jz, api.Jnz:
		return []operand{inA, inLabel}
	case api.Jmp, api.Jsr:
		return []operand{inLabel}
	case api.Set:
		return []operand{inA, inLabelOrV}
	case api.Get:
		return []operand{inA, inBOrV}
	case api.Obj:
		return []operand{inA, inB, inV}
	case api.Call:
		return []operand{inV}
	}
	return nil
}
