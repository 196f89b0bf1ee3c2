package scope

import (
	"testing"

	"scholium/api"
	"scholium/term"
)

func TestScope(t *testing.T) {
	nat := term.Const("nat")
	ctx := make([]api.Term, 0, 200)
	for n := range Most {
		if !Right(ctx, nat) || Right(ctx, term.Var(n)) || n > 0 && !Right(ctx, term.Var(n-1)) || Right(append(ctx[:n:n], term.Var(n))) {
			t.Error(n)
		}
		next, ok := Deeper(ctx, nat)
		if !ok || len(next) != n+1 || ctx[:n+1][n].Kind == nat.Kind {
			t.Error(n, ok)
		}
		ctx = append(make([]api.Term, 0, 200), next...)
	}
	if next, ok := Deeper(ctx, nat); ok || next != nil || !Right(ctx) || Right(append(ctx, nat)) {
		t.Error("more than there may be")
	}
}
