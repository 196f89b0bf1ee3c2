package text

import (
	"strconv"
	"strings"

	"scholium/api"
	"scholium/level"
	"scholium/term"
)

// ReadLevel: the level of a text.
func ReadLevel(s string) (api.Level, bool) {
	if len(s) > longest {
		return api.Level{}, false
	}
	r := reader{s: s}
	l := r.level()
	if Level(l) != s || s == "" { // what has a text has just one
		return api.Level{}, false
	}
	return l, true
}

// ReadTerm: the term of a text.
func ReadTerm(s string) (api.Term, bool) {
	if len(s) > longest {
		return api.Term{}, false
	}
	r := reader{s: s}
	t := r.term()
	if Term(t) != s || s == "" {
		return api.Term{}, false
	}
	return t, true
}

// A reader reads what may be a text; where it isn't, what comes of it has another text, or none.
type reader struct {
	s  string
	at int
}

// take: is this next? Then it is behind us.
func (r *reader) take(s string) bool {
	if !strings.HasPrefix(r.s[r.at:], s) {
		return false
	}
	r.at += len(s)
	return true
}

// word: what stands ahead of a blank or a bracket.
func (r *reader) word() string {
	rest := r.s[r.at:]
	if n := strings.IndexAny(rest, " ()"); n >= 0 {
		rest = rest[:n]
	}
	r.at += len(rest)
	return rest
}

// number answers -1, which nothing right has, where there is none.
func number(s string) int {
	n, err := strconv.Atoi(s)
	if err != nil {
		return -1
	}
	return n
}

// levels: those that stand behind blanks each.
func (r *reader) levels() []api.Level {
	var list []api.Level
	for r.take(" ") {
		list = append(list, r.level())
	}
	r.take(")")
	return list
}

func (r *reader) level() api.Level {
	for _, kind := range [...]int{api.LSucc, api.LMax, api.LIMax} {
		if r.take("(" + levelSign(kind)) {
			return api.Level{Kind: kind, Args: r.levels()}
		}
	}
	if r.take("u") {
		return level.Param(number(r.word()))
	}
	return level.Num(number(r.word()))
}

// terms: those that stand behind blanks each.
func (r *reader) terms() []api.Term {
	var list []api.Term
	for r.take(" ") {
		list = append(list, r.term())
	}
	r.take(")")
	return list
}

func (r *reader) term() api.Term {
	switch {
	case r.take("#"):
		return term.Var(number(r.word()))
	case r.take("(*"):
		return api.Term{Kind: api.TSort, Levels: r.levels()}
	case r.take("(@ "):
		return api.Term{Kind: api.TConst, Name: r.word(), Levels: r.levels()}
	}
	for _, kind := range [...]int{api.TLam, api.TPi, api.TLet} {
		if r.take("(" + termSign(kind)) {
			return api.Term{Kind: kind, Args: r.terms()}
		}
	}
	if !r.take("(") {
		return term.Const(r.word())
	}
	out := r.term()
	for _, arg := range r.terms() {
		out = api.Term{Kind: api.TApp, Args: []api.Term{out, arg}}
	}
	return out
}
