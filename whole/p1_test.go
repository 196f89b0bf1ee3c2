// Package whole has the tests of the promises P1 to P8, which hold through all layers.
package whole

import (
	"cmp"
	"math/rand"
	"reflect"
	"slices"
	"testing"

	"scholium/admit"
	"scholium/api"
	"scholium/arena"
	"scholium/bind"
	"scholium/conv"
	"scholium/decl"
	"scholium/deps"
	"scholium/env"
	"scholium/induct"
	"scholium/infer"
	"scholium/kern"
	"scholium/level"
	"scholium/model"
	"scholium/name"
	"scholium/pack"
	"scholium/posit"
	"scholium/recur"
	"scholium/script"
	"scholium/serve"
	"scholium/sess"
	"scholium/tele"
	"scholium/term"
	"scholium/text"
	"scholium/tree"
	"scholium/vers"
	"scholium/whnf"
	"scholium/wire"
)

// calls: all that the chapters list, but for methods.
func calls() []any {
	return []any{
		name.Right, name.Parts, name.Join, name.Parent, name.Last, name.Under, name.Fresh, name.Sort,
		wire.Nums, wire.Texts, wire.List, wire.Num, wire.Text, wire.Take, wire.Size,
		level.Right, level.Value, level.Leq, level.Same, level.Inst, level.Zero, level.Never, level.Num, level.Param, level.Succ, level.Max, level.IMax, level.Nodes,
		term.Right, term.Nodes, term.Loose, term.Same, term.Levels, term.Consts, term.Spine, term.Var, term.Sort, term.Const, term.App, term.Lam, term.Pi, term.Let, term.Arrow,
		arena.New, bind.Lift, bind.Lower, bind.Inst, bind.Uses, bind.Count, bind.Occurs, bind.Replace, bind.Abstract,
		text.Level, text.Term, text.ReadLevel, text.ReadTerm, text.Decl,
		pack.Level, pack.Term, pack.Decl, pack.TakeLevel, pack.TakeTerm, pack.TakeDecl, pack.Formed, pack.Hash,
		deps.Names, deps.Needs, deps.Clash, deps.First, deps.Reach, tree.New,
		decl.Right, decl.Plain, decl.Type, decl.Value, decl.Unfolds, decl.Same, decl.Clone, env.New,
		whnf.New, conv.New, conv.IMax, infer.New, admit.Plain, admit.Add, admit.All,
		tele.Count, tele.Split, tele.Open, tele.Close, tele.Apply, tele.Consts, tele.Names,
		posit.Shape, posit.Arms, posit.Large, recur.Build, recur.Entries, induct.Entries, induct.Add, induct.Large,
		kern.Verdict, kern.Ledger, kern.Look, kern.Ask, vers.New, sess.New,
		serve.Encode, serve.Decode, serve.EncodeReply, serve.DecodeReply, serve.Answer, serve.New, model.New,
		script.Line, script.Read, script.Show, script.Parse, script.Run, script.Say,
	}
}

// things: the types whose methods the chapters list.
func things() []reflect.Type {
	return []reflect.Type{reflect.TypeFor[*arena.Arena](), reflect.TypeFor[*tree.Tree](), reflect.TypeFor[*env.Env](), reflect.TypeFor[*whnf.Run](), reflect.TypeFor[*conv.Conv](), reflect.TypeFor[*infer.Infer](), reflect.TypeFor[*vers.Store](), reflect.TypeFor[*sess.Base](), reflect.TypeFor[*serve.Server](), reflect.TypeFor[*model.Model]()}
}

// args: arguments of a function, from a place on.
func (w wild) args(t reflect.Type, from int) []reflect.Value {
	var out []reflect.Value
	for i := from; i < t.NumIn(); i++ {
		out = append(out, w.of(t.In(i)))
	}
	return out
}

// call calls a function, and holds what it answers against the rules 3 and 4.
func call(t *testing.T, what string, f reflect.Value, args []reflect.Value) {
	var before, after []any
	for _, a := range args {
		if a.Kind() != reflect.Pointer {
			before, after = append(before, copied(a).Interface()), append(after, a.Interface())
		}
	}
	defer func() {
		if x := recover(); x != nil {
			t.Errorf("%s panics: %v: %.500v", what, x, before)
		}
	}()
	var out []reflect.Value
	if f.Type().IsVariadic() {
		out = f.CallSlice(args)
	} else {
		out = f.Call(args)
	}
	if !reflect.DeepEqual(before, after) {
		t.Errorf("%s changes what it is handed: %.500v", what, before)
	}
	apart(t, what, out)
	for _, x := range out {
		spoil(x)
	}
	if !reflect.DeepEqual(before, after) {
		t.Errorf("%s answers memory that it was handed: %.500v", what, before)
	}
	if nothing(out) {
		for i, x := range out[:len(out)-1] {
			if x.Kind() != reflect.Int && x.Kind() != reflect.Slice && !x.IsZero() {
				t.Errorf("%s answers something beside nothing, at %d: %.500v", what, i, before)
			}
		}
	}
}

// apart: shares no list of an answer memory with another one?
func apart(t *testing.T, what string, out []reflect.Value) {
	var spans [][2]uintptr
	var gather func(v reflect.Value)
	gather = func(v reflect.Value) {
		switch v.Kind() {
		case reflect.Slice:
			if size := uintptr(v.Cap()) * v.Type().Elem().Size(); size > 0 {
				spans = append(spans, [2]uintptr{v.Pointer(), v.Pointer() + size})
			}
			for i := range v.Len() {
				gather(v.Index(i))
			}
		case reflect.Struct:
			for i := range v.NumField() {
				gather(v.Field(i))
			}
		}
	}
	for _, v := range out {
		gather(v)
	}
	slices.SortFunc(spans, func(a, b [2]uintptr) int { return cmp.Compare(a[0], b[0]) })
	for i := 1; i < len(spans); i++ {
		if spans[i][0] < spans[i-1][1] {
			t.Errorf("%s: two lists of one answer share memory", what)
			return
		}
	}
}

// spoil changes all that lies behind a value, and behind its lists' lengths.
func spoil(v reflect.Value) {
	switch v.Kind() {
	case reflect.Slice:
		all := v.Slice(0, v.Cap())
		for i := range all.Len() {
			spoil(all.Index(i))
			if x := all.Index(i); x.Kind() == reflect.Struct && x.NumField() > 0 && x.Field(0).Kind() == reflect.Int {
				x.Field(0).SetInt(99)
			} else if x.Kind() != reflect.Struct {
				x.SetZero()
			}
		}
	case reflect.Struct:
		for i := range v.NumField() {
			spoil(v.Field(i))
		}
	}
}

// nothing: does the last one of several results tell an error, or that there is nothing?
func nothing(out []reflect.Value) bool {
	if len(out) < 2 {
		return false
	}
	switch x := out[len(out)-1].Interface().(type) {
	case bool:
		return !x
	case api.Errno:
		return x != api.OK
	case kern.Told:
		return x.Err != api.OK
	}
	return false
}

// copied: a value with all that lies behind it.
func copied(v reflect.Value) reflect.Value {
	out := reflect.New(v.Type()).Elem()
	switch v.Kind() {
	case reflect.Slice:
		if v.IsNil() {
			return out
		}
		out.Set(reflect.MakeSlice(v.Type(), v.Len(), v.Len()))
		for i := range v.Len() {
			out.Index(i).Set(copied(v.Index(i)))
		}
	case reflect.Struct:
		for i := range v.NumField() {
			out.Field(i).Set(copied(v.Field(i)))
		}
	default:
		out.Set(v)
	}
	return out
}

func TestP1Functions(t *testing.T) {
	w := wild{rand.New(rand.NewSource(1))}
	for i, f := range calls() {
		v := reflect.ValueOf(f)
		for range 150 {
			call(t, v.Type().String()+" "+string(rune('0'+i%10)), v, w.args(v.Type(), 0))
		}
	}
}

func TestP1Methods(t *testing.T) {
	w := wild{rand.New(rand.NewSource(2))}
	for _, typ := range things() {
		for range 60 {
			self := w.of(typ)
			for range 25 {
				m := typ.Method(w.Intn(typ.NumMethod()))
				call(t, typ.String()+"."+m.Name, self.Method(m.Index), w.args(m.Type, 1))
			}
		}
	}
}
