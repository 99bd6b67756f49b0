package vm

import "distaff/api"

// lastCall is the greatest number of a call.
const lastCall = 999

// valid reports whether x, whatever its mark, may be in code of that length: a library's, or a client's if it is a call. It strikes out each field that is as the operation's row (chapter 4) wants it; nothing may be left.
func valid(x api.Ins, length int) bool {
	switch x.Op {
	case api.Add, api.Sub, api.And, api.Or, api.Xor, api.Shl, api.Shr, api.Eq, api.Lt:
		if x.C == -1 {
			x.C, x.V = 0, 0
		}
		fallthrough
	case api.Qpt, api.Qtk, api.Qmv, api.Qhs, api.Tnw:
		strike(&x.C)
		fallthrough
	case api.Mov, api.Hsh, api.Tst, api.Thm, api.Ckp, api.Wkd, api.Trp:
		strike(&x.B)
		fallthrough
	case api.Slp, api.Hnd, api.Pik, api.Ijt, api.Run, api.Prk, api.Slf, api.Wrk, api.Wkn, api.Now, api.Drw, api.Fre, api.Del, api.Tjn, api.Tdt, api.Tex, api.Cbk:
		strike(&x.A)
		fallthrough
	case api.Ret, api.Inj, api.End, api.Yld, api.Fin:

	case api.Cas, api.Tak:
		strike(&x.C)
		fallthrough
	case api.Ld, api.St, api.Swp, api.Fad, api.Lay:
		if x.B == -1 {
			x.B = 0
		}
		fallthrough
	case api.Obj:
		strike(&x.B)
		fallthrough
	case api.Set:
		strike(&x.A)
		x.V = 0

	case api.Get:
		if x.B == -1 {
			x.B, x.V = 0, 0
		}
		strike(&x.A)
		strike(&x.B)

	case api.Jz, api.Jnz:
		strike(&x.A)
		fallthrough
	case api.Jmp, api.Jsr:
		if x.V < uint64(length) {
			x.V = 0
		}

	case api.Call:
		if x.V <= lastCall {
			x.V = 0
		}

	default:
		return false
	}
	return x.A == 0 && x.B == 0 && x.C == 0 && x.V == 0
}

// strike makes the number of a register 0. Any other number, which is not 0, stays.
func strike(n *int) {
	if *n >= 0 && *n < api.Regs {
		*n = 0
	}
}
