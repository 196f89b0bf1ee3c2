// Package sample has declarations and entries, written as text, that the layers' tests lean on.
package sample

import (
	"scholium/api"
	"scholium/text"
)

// Term: the term of a text (noughts, if it is none).
func Term(s string) api.Term {
	t, _ := text.ReadTerm(s)
	return t
}

// Level: the level of a text.
func Level(s string) api.Level {
	l, _ := text.ReadLevel(s)
	return l
}

// Terms: the terms of texts.
func Terms(list ...string) []api.Term {
	var out []api.Term
	for _, s := range list {
		out = append(out, Term(s))
	}
	return out
}

// Axiom: a name of a type.
func Axiom(name string, params int, typ string) api.Decl {
	return api.Decl{Kind: api.DAxiom, Name: name, Params: params, Type: Term(typ)}
}

// Def: a definition.
func Def(name string, params int, typ, value string) api.Decl {
	return api.Decl{Kind: api.DDef, Name: name, Params: params, Type: Term(typ), Value: Term(value)}
}

// Thm: a theorem.
func Thm(name string, params int, typ, value string) api.Decl {
	return api.Decl{Kind: api.DThm, Name: name, Params: params, Type: Term(typ), Value: Term(value)}
}

// Opaque: a definition that doesn't unfold.
func Opaque(name string, params int, typ, value string) api.Decl {
	return api.Decl{Kind: api.DOpaque, Name: name, Params: params, Type: Term(typ), Value: Term(value)}
}

// Ind: a family; of each constructor the name and the type follow.
func Ind(name string, params, fixed int, typ string, ctors ...string) api.Decl {
	d := api.Decl{Kind: api.DInd, Name: name, Params: params, Type: Term(typ), Fixed: fixed}
	for i := 0; i+1 < len(ctors); i += 2 {
		d.Ctors = append(d.Ctors, api.Ctor{Name: ctors[i], Type: Term(ctors[i+1])})
	}
	return d
}

// Entry: an entry of an axiom, or, with a value, of a definition of the height 1.
func Entry(name string, params int, typ, value string) api.Entry {
	e := api.Entry{Kind: api.DAxiom, Name: name, Params: params, Type: Term(typ)}
	if value != "" {
		e.Kind, e.Value, e.Height = api.DDef, Term(value), 1
	}
	return e
}

const (
	natMotive = "(> nat (* u0))"
	natZero   = "(#0 nat.z)"
	natSucc   = "(> nat (> (#2 #0) (#3 (nat.s #1))))"
)

// natRule: a rule of num's recursor.
func natRule(body string) api.Term {
	return Term("(\\ " + natMotive + " (\\ " + natZero + " (\\ " + natSucc + " " + body + ")))")
}

// NatEntries: what an environment has of the numbers.
func NatEntries() []api.Entry {
	ctors := []string{"nat.z", "nat.s"}
	return []api.Entry{
		{Kind: api.DInd, Name: "nat", Type: Term("(* 1)"), Ctors: ctors},
		{Kind: api.ECtor, Name: "nat.z", Type: Term("nat"), Value: natRule("#1"), Family: "nat"},
		{Kind: api.ECtor, Name: "nat.s", Type: Term("(> nat nat)"), Value: natRule("(\\ nat (#1 #0 ((@ nat.rec u0) #3 #2 #1 #0)))"), Family: "nat", Index: 1, Fields: 1},
		{Kind: api.ERec, Name: "nat.rec", Params: 1, Type: Term("(> " + natMotive + " (> " + natZero + " (> " + natSucc + " (> nat (#3 #0)))))"), Family: "nat", Ctors: []string{"nat.z", "nat.s"}},
	}
}

// Nat: the family of the numbers.
func Nat() api.Decl {
	return Ind("nat", 0, 0, "(* 1)", "nat.z", "nat", "nat.s", "(> nat nat)")
}

// Add: the sum of two numbers, by the second one.
func Add() api.Decl {
	return Def("add", 0, "(> nat (> nat nat))", "(\\ nat (\\ nat ((@ nat.rec 1) (\\ nat nat) #1 (\\ nat (\\ nat (nat.s #0))) #0)))")
}

// Num: a number as text.
func Num(n int) string {
	s := "nat.z"
	for range n {
		s = "(nat.s " + s + ")"
	}
	return s
}
