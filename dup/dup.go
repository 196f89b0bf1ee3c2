// Package dup makes declarations anew: what layers 23 and 25 keep, and hand out, is nobody else's.
package dup

import (
	"slices"

	"scholium/api"
	"scholium/term"
)

// Decl: a declaration as new memory.
func Decl(d api.Decl) api.Decl {
	d.Type, d.Value, d.Ctors = term.App(d.Type), term.App(d.Value), slices.Clone(d.Ctors)
	for i := range d.Ctors {
		d.Ctors[i].Type = term.App(d.Ctors[i].Type)
	}
	return d
}

// Decls: likewise a list of them.
func Decls(list []api.Decl) []api.Decl {
	var out []api.Decl
	for _, d := range list {
		out = append(out, Decl(d))
	}
	return out
}
