package whole

import (
	"math"
	"math/rand"
	"reflect"

	"scholium/api"
	"scholium/arena"
	"scholium/conv"
	"scholium/env"
	"scholium/infer"
	"scholium/kern"
	"scholium/model"
	"scholium/sample"
	"scholium/script"
	"scholium/serve"
	"scholium/sess"
	"scholium/tele"
	"scholium/tree"
	"scholium/vers"
	"scholium/whnf"
)

// A wild makes arguments of which no call may mind any.
type wild struct{ *rand.Rand }

func pick[T any](w wild, list ...T) T { return list[w.Intn(len(list))] }

func (w wild) number() int {
	return pick(w, w.Intn(5), w.Intn(5), w.Intn(20), w.Intn(300), -1, 16, 17, 64, 65, 200, 2000, 2001, 1<<20, 1<<20+1, 1<<40, 1<<40+1, 1<<50, 1<<50+1, -1<<40, math.MaxInt, math.MinInt, math.MinInt+1)
}

func (w wild) text() string {
	return pick(w, "", "a", "nat", "nat.z", "nat.s", "nat.rec", "add", "l0", "l0.x0", "l1.x1", "A", ".", "a..b", "\xff\x00", "é", "(\\ nat #0)", "(> nat nat)", "(* 0)", "u0", "(+ u0)", "((", "#", "send 0 0100", "step -1", "send 0 zz", "send 1 -\nstep 0\n#", "a234567890123456789012345678901234567890", "a23456789012345678901234567890123456789", string(w.bytes()))
}

func (w wild) bytes() []byte {
	var b []byte
	if w.Intn(2) == 0 {
		b, _ = serve.Encode(w.request())
	}
	for range w.Intn(4) {
		b = append(b, byte(pick(w, w.Intn(10), w.Intn(256))))
	}
	return b
}

func (w wild) level(deep int) api.Level {
	l := api.Level{Kind: pick(w, w.Intn(5)+1, w.Intn(5)+1, w.Intn(9)-1), N: pick(w, 0, 0, 0, w.Intn(5), w.number())}
	args := 0
	switch l.Kind {
	case api.LSucc:
		args = 1
	case api.LMax, api.LIMax:
		args = 2
	}
	if w.Intn(30) == 0 {
		args = w.Intn(4)
	}
	for range args {
		if deep > 0 {
			l.Args = append(l.Args, w.level(deep-1))
		} else {
			l.Args = append(l.Args, api.Level{Kind: api.LNum, N: w.Intn(3)})
		}
	}
	return l
}

func (w wild) levels() []api.Level {
	var out []api.Level
	for range w.Intn(4) {
		out = append(out, w.level(2))
	}
	return out
}

func (w wild) term(deep int) api.Term {
	if w.Intn(3) == 0 {
		return pick(w, sample.Terms("nat", "nat.z", "(nat.s nat.z)", "(add nat.z)", "(> nat nat)", "(* 0)", "(\\ nat (nat.s #0))", "(@ nat.rec u0)", "((@ nat.rec 1) (\\ nat nat) nat.z (\\ nat (\\ nat #0)) nat.z)", "(= nat nat.z #0)", "#0", "#1", "(> (* u0) (> #0 #1))", "((\\ nat (#0 #0)) (\\ nat (#0 #0)))")...)
	}
	t := api.Term{Kind: pick(w, w.Intn(7)+1, w.Intn(7)+1, w.Intn(7)+1, w.Intn(11)-1)}
	args := 0
	switch t.Kind {
	case api.TVar:
		t.N = pick(w, w.Intn(3), w.Intn(3), w.number())
	case api.TSort:
		t.Levels = []api.Level{w.level(2)}
	case api.TConst:
		t.Name = pick(w, "nat", "add", w.text())
		t.Levels = pick(w, nil, w.levels())
	case api.TApp, api.TLam, api.TPi:
		args = 2
	case api.TLet:
		args = 3
	}
	if w.Intn(40) == 0 {
		args, t.N = w.Intn(4), w.number()
	}
	for range args {
		if deep > 0 {
			t.Args = append(t.Args, w.term(deep-1))
		} else {
			t.Args = append(t.Args, sample.Term("nat.z"))
		}
	}
	return t
}

func (w wild) terms() []api.Term {
	var out []api.Term
	for range pick(w, w.Intn(4), w.Intn(4), w.Intn(70)) {
		out = append(out, w.term(1))
	}
	return out
}

func (w wild) decl() api.Decl {
	if w.Intn(2) == 0 {
		return pick(w, library()...)
	}
	d := api.Decl{Kind: pick(w, w.Intn(5)+1, w.Intn(9)-1), Params: pick(w, 0, 0, w.Intn(4), w.number()), Name: pick(w, "x", w.text()), Type: w.term(3)}
	if w.Intn(2) == 0 {
		d.Value = w.term(3)
	}
	if d.Kind == api.DInd || w.Intn(9) == 0 {
		d.Fixed = pick(w, 0, w.Intn(3), w.number())
		for range pick(w, w.Intn(3), w.Intn(10)) {
			d.Ctors = append(d.Ctors, api.Ctor{Name: pick(w, "x.a", "x.b", w.text()), Type: pick(w, w.term(3), sample.Term("x"), sample.Term("(> nat (> x x))"))})
		}
	}
	return d
}

func (w wild) entry() api.Entry {
	if w.Intn(3) == 0 {
		return pick(w, sample.NatEntries()...)
	}
	e := api.Entry{Kind: pick(w, w.Intn(7)+1, w.number()), Params: pick(w, 0, w.Intn(5), w.number()), Name: w.text(), Type: w.term(2)}
	for _, to := range []*int{&e.Height, &e.Fixed, &e.Index, &e.Fields} {
		*to = pick(w, 0, 0, 0, 1, w.number())
	}
	if w.Intn(2) == 0 {
		e.Value, e.Family, e.Ctors = w.term(2), w.text(), []string{w.text()}
	}
	return e
}

func (w wild) request() serve.Request {
	r := serve.Request{Kind: pick(w, w.Intn(9)+1, w.number()), Id: pick(w, 0, 1, 2, w.number())}
	switch r.Kind {
	case serve.RStage:
		r.Decl = w.decl()
	case serve.RAsk:
		r.Term = w.term(3)
	case serve.RLook:
		r.Name = w.text()
	}
	if w.Intn(20) == 0 {
		r.Name, r.Term = w.text(), w.term(1)
	}
	return r
}

func (w wild) config() sess.Config {
	c := sess.Config{Sessions: 1 + w.Intn(5), Ids: w.Intn(9), Staged: w.Intn(4), Live: 1 + w.Intn(4), Last: w.Intn(9), Fuel: w.Intn(3000)}
	if w.Intn(3) == 0 {
		*pick(w, &c.Sessions, &c.Ids, &c.Staged, &c.Live, &c.Last, &c.Fuel) = w.number()
	}
	return c
}

// fuel is small enough that what has no end ends soon.
func (w wild) fuel() int { return w.Intn(2000) }

func (w wild) env() *env.Env {
	v, _ := kern.Ledger(env.New(), api.MaxFuel, library()[:w.Intn(6)]...)
	if next, err := v.Add(w.entry()); err == api.OK {
		return next
	}
	return v
}

// must: what was made, of something that is right.
func must[T any](out T, err api.Errno) T {
	if err != api.OK {
		panic(err)
	}
	return out
}

var plain = sess.Config{Sessions: 4, Ids: 100, Staged: 3, Live: 9, Last: 50, Fuel: 3000}

// of: a value of a type.
func (w wild) of(t reflect.Type) reflect.Value {
	if t.Kind() == reflect.Slice && t.Elem().Kind() != reflect.Uint8 && t != reflect.TypeFor[[]api.Term]() {
		list := reflect.MakeSlice(t, 0, 4)
		for range w.Intn(5) {
			list = reflect.Append(list, w.of(t.Elem()))
		}
		return list
	}
	return reflect.ValueOf(w.value(t)).Convert(t)
}

func (w wild) value(t reflect.Type) any {
	switch t {
	case reflect.TypeFor[int]():
		return w.number()
	case reflect.TypeFor[string]():
		return w.text()
	case reflect.TypeFor[[]byte]():
		return w.bytes()
	case reflect.TypeFor[api.Level]():
		return w.level(3)
	case reflect.TypeFor[api.Term]():
		return w.term(4)
	case reflect.TypeFor[[]api.Term]():
		return w.terms()
	case reflect.TypeFor[api.Decl]():
		return w.decl()
	case reflect.TypeFor[api.Entry]():
		return w.entry()
	case reflect.TypeFor[tele.Local]():
		return tele.Local{Name: w.text(), Type: w.term(2)}
	case reflect.TypeFor[serve.Request]():
		return w.request()
	case reflect.TypeFor[serve.Reply]():
		return serve.Reply{Err: api.Errno(w.number()), Ticks: w.number(), N: w.number(), Kind: w.number(), Term: w.term(2), Has: w.Intn(2) == 0}
	case reflect.TypeFor[sess.Config]():
		return w.config()
	case reflect.TypeFor[script.Event]():
		return script.Event{Client: pick(w, 0, 1, w.number()), Pick: pick(w, 0, w.number()), Step: w.Intn(2) == 0, Bytes: pick(w, nil, w.bytes())}
	}
	return w.thing(t)
}

// thing: something that a package makes.
func (w wild) thing(t reflect.Type) any {
	switch t {
	case reflect.TypeFor[*env.Env]():
		return w.env()
	case reflect.TypeFor[*arena.Arena]():
		return must(arena.New(1 + w.Intn(300)))
	case reflect.TypeFor[*tree.Tree]():
		return tree.New().Put(w.text(), w.number()).Put(w.text(), 1)
	case reflect.TypeFor[*whnf.Run]():
		return must(whnf.New(w.env(), w.fuel()))
	case reflect.TypeFor[*conv.Conv]():
		return conv.New(must(whnf.New(w.env(), w.fuel())))
	case reflect.TypeFor[*infer.Infer]():
		return infer.New(must(whnf.New(w.env(), w.fuel())))
	case reflect.TypeFor[*vers.Store]():
		return must(vers.New(w.env(), 1+w.Intn(4), w.Intn(5)))
	case reflect.TypeFor[*sess.Base]():
		return must(sess.New(plain))
	case reflect.TypeFor[*serve.Server]():
		return must(serve.New(plain, 2, 2))
	case reflect.TypeFor[*model.Model]():
		return must(model.New(plain))
	}
	return reflect.New(t).Elem().Interface() // posit.Family and its parts: noughts
}

// library: declarations that are admitted one behind the other.
func library() []api.Decl {
	return []api.Decl{
		sample.Nat(), sample.Add(), sample.Ind("eq", 1, 2, "(> (* u0) (> #0 (> #1 (* 0))))", "eq.refl", "(> (* u0) (> #0 ((@ eq u0) #1 #0 #0)))"),
		sample.Thm("sum", 0, "((@ eq 1) nat (add "+sample.Num(2)+" "+sample.Num(2)+") "+sample.Num(4)+")", "((@ eq.refl 1) nat "+sample.Num(4)+")"),
		sample.Axiom("p", 0, "(* 0)"), sample.Opaque("o", 0, "nat", sample.Num(3)), sample.Def("d", 0, "nat", "(add o o)"), sample.Ind("void", 0, 0, "(* 0)"),
		sample.Ind("list", 1, 1, "(> (* (+ u0)) (* (+ u0)))", "list.nil", "(> (* (+ u0)) ((@ list u0) #0))", "list.cons", "(> (* (+ u0)) (> #0 (> ((@ list u0) #1) ((@ list u0) #2))))"),
	}
}
