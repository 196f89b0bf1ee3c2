package serve

import (
	"scholium/api"
	"scholium/pack"
	"scholium/term"
	"scholium/wire"
)

const (
	longName = 1000 // bytes of a name that is looked up
	mostErr  = 100  // an error's number
)

// Encode: a request's bytes.
func Encode(r Request) ([]byte, bool) {
	body, ok := payload(&r)
	if !ok || !bare(&r) {
		return nil, false
	}
	head, ok := wire.Nums(r.Kind, r.Id)
	if !ok {
		return nil, false
	}
	return append(head, body...), true
}

// payload: the bytes of what a request's kind has behind the numbers; false, if there is no such kind, or it isn't as told.
func payload(r *Request) ([]byte, bool) {
	switch r.Kind {
	case ROpen, RSweep, RStat:
		return nil, r.Id == 0
	case RStage:
		return pack.Decl(r.Decl)
	case RLook:
		return wire.Texts(r.Name), len(r.Name) <= longName
	case RAsk:
		return pack.Term(r.Term)
	case RCommit, RAbort, RClose:
		return nil, true
	}
	return nil, false
}

// bare: is all that a request's kind hasn't noughts?
func bare(r *Request) bool {
	return (r.Kind == RStage || noDecl(&r.Decl)) && (r.Kind == RLook || r.Name == "") && (r.Kind == RAsk || noTerm(&r.Term))
}

func noTerm(t *api.Term) bool { return term.Same(*t, api.Term{}) }

func noDecl(d *api.Decl) bool {
	return d.Kind == 0 && d.Params == 0 && d.Name == "" && d.Fixed == 0 && len(d.Ctors) == 0 && noTerm(&d.Type) && noTerm(&d.Value)
}

// nums takes numbers off the beginning of bytes.
func nums(b []byte, into ...*int) ([]byte, bool) {
	for _, to := range into {
		n, rest, ok := wire.Num(b)
		if !ok {
			return nil, false
		}
		*to, b = n, rest
	}
	return b, true
}

// Decode: the request of bytes.
func Decode(b []byte) (Request, api.Errno) {
	var r Request
	rest, ok := nums(b, &r.Kind, &r.Id)
	if !ok {
		return Request{}, api.ErrForm
	}
	switch r.Kind {
	case RStage:
		r.Decl, rest, ok = pack.TakeDecl(rest)
	case RLook:
		r.Name, rest, ok = wire.Text(rest)
	case RAsk:
		r.Term, rest, ok = pack.TakeTerm(rest)
	}
	if _, right := payload(&r); !ok || !right || len(rest) > 0 {
		return Request{}, api.ErrForm
	}
	return r, api.OK
}

// EncodeReply: a reply's bytes.
func EncodeReply(r Reply) ([]byte, bool) {
	out, ok := wire.Nums(int(r.Err), r.Ticks, r.N, r.Kind)
	if !ok || r.Err > mostErr {
		return nil, false
	}
	if !r.Has {
		if !noTerm(&r.Term) {
			return nil, false
		}
		return out, true
	}
	body, ok := pack.Term(r.Term)
	if !ok {
		return nil, false
	}
	return append(out, body...), true
}

// DecodeReply: the reply of bytes.
func DecodeReply(b []byte) (Reply, api.Errno) {
	var r Reply
	err := 0
	rest, ok := nums(b, &err, &r.Ticks, &r.N, &r.Kind)
	if !ok || err > mostErr {
		return Reply{}, api.ErrForm
	}
	r.Err, r.Has = api.Errno(err), len(rest) > 0
	if r.Has {
		r.Term, rest, ok = pack.TakeTerm(rest)
	}
	if !ok || len(rest) > 0 {
		return Reply{}, api.ErrForm
	}
	return r, api.OK
}
