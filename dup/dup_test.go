package dup

import (
	"reflect"
	"testing"

	"scholium/api"
	"scholium/sample"
)

func TestDecls(t *testing.T) {
	list := []api.Decl{sample.Nat(), sample.Add(), {}}
	got := Decls(list)
	if !reflect.DeepEqual(got, list) {
		t.Error(got)
	}
	got[0].Ctors[1].Type.Args[0].Name = "changed"
	got[0].Ctors[0].Name = "changed"
	got[1].Type.Args[0].Name = "changed"
	got[1].Value.Args[0].Name = "changed"
	if !reflect.DeepEqual(list, []api.Decl{sample.Nat(), sample.Add(), {}}) {
		t.Error("shared")
	}
}
