package level

import "scholium/api"

// A form is what a level comes to while it is known which parameters are 0 (the others are 1 or more): the greatest one of a number, and of the parameters that aren't 0, each with what is added to it. Levels that come to one value have one form.
type form struct {
	num int
	add [api.MaxParams]int // none: the parameter isn't there
}

const none = -1

func nought() form {
	f := form{}
	for i := range f.add {
		f.add[i] = none
	}
	return f
}

// least: the value where each parameter that isn't 0 is 1.
func (f form) least() int {
	n := f.num
	for _, a := range f.add {
		if a != none {
			n = max(n, a+1)
		}
	}
	return n
}

// short leaves the number out, if a parameter is always as great.
func (f form) short() form {
	n := f.num
	f.num = 0
	if f.least() < n {
		f.num = n
	}
	return f
}

func (f form) succ() form {
	f.num++
	for i, a := range f.add {
		if a != none {
			f.add[i]++
		}
	}
	return f.short()
}

func (f form) max(g form) form {
	f.num = max(f.num, g.num)
	for i := range f.add {
		f.add[i] = max(f.add[i], g.add[i])
	}
	return f.short()
}

// formOf: a level's form, where the parameters whose bits are in zeros are 0.
func formOf(l *api.Level, zeros int) form {
	f := nought()
	switch l.Kind {
	case api.LNum:
		f.num = l.N
		return f
	case api.LParam:
		if zeros>>l.N&1 == 0 {
			f.add[l.N] = 0
		}
		return f
	case api.LSucc:
		return formOf(&l.Args[0], zeros).succ()
	}
	right := formOf(&l.Args[1], zeros)
	if l.Kind == api.LIMax && right == nought() {
		return right
	}
	return formOf(&l.Args[0], zeros).max(right)
}

// atMost: a parameter may be as great as it likes, so it must be there in g, with as much added; the number must be met where all are least.
func atMost(f, g form) bool {
	for i, a := range f.add {
		if a > g.add[i] {
			return false
		}
	}
	return f.num <= g.least()
}

// always: does it hold of the forms of two right levels, whichever parameters are 0?
func always(holds func(f, g form) bool, a, b api.Level) bool {
	if !Right(a, api.MaxParams) || !Right(b, api.MaxParams) {
		return false
	}
	for zeros := range 1 << api.MaxParams {
		if !holds(formOf(&a, zeros), formOf(&b, zeros)) {
			return false
		}
	}
	return true
}
