package expr

import (
	"grommet/api"
	"grommet/leb"
	"grommet/op"
)

// reader goes through the bytes once, from the front; at is the next one, count how many instructions it has seen.
type reader struct {
	b     []byte
	at    int
	count int
}

// Get reads one: P6.2.
func Get(b []byte, at int) ([]api.Ins, int, error) {
	if at < 0 || at > len(b) {
		return nil, 0, api.ErrArg
	}
	r := &reader{b: b, at: at}
	l, _, err := r.list(0, false)
	if err != nil {
		return nil, 0, err
	}
	return l, r.at, nil
}

// list reads what so many blocks have around it, with the byte that closes it: 0b, or, where an else may follow, 05.
func (r *reader) list(depth int, mayElse bool) ([]api.Ins, byte, error) {
	var l []api.Ins
	for {
		c, err := r.peek()
		if err != nil {
			return nil, 0, err
		}
		if c == end || c == startElse && mayElse {
			r.at++
			return l, c, nil
		}
		x, err := r.ins(int(c), depth)
		if err != nil {
			return nil, 0, err
		}
		l = append(l, x)
	}
}

// ins reads the instruction whose operation's byte is next.
func (r *reader) ins(code, depth int) (api.Ins, error) {
	o, err := r.operation(code, depth)
	if err != nil {
		return api.Ins{}, err
	}
	x := api.Ins{Op: code}
	switch behind(o) {
	case block:
		err = r.block(&x, depth+1)
	case number:
		x.A, err = r.number()
	case numberAndZero:
		x.A, err = r.number()
		if err == nil {
			err = r.zero()
		}
	case twoNumbers:
		x.A, err = r.number()
		if err == nil {
			x.B, err = r.number()
		}
	case labels:
		x.L, err = r.labels()
	case onlyZero:
		err = r.zero()
	case constant:
		x.V, err = r.constant(o.Gives)
	}
	return x, err
}

// operation looks the next byte up; as an error of its own comes ahead of one too many, it counts last.
func (r *reader) operation(code, depth int) (api.Op, error) {
	o, err := op.Look(code)
	switch {
	case err == api.ErrFloat:
		return api.Op{}, r.fault(api.ErrFloat)
	case err != nil:
		return api.Op{}, r.fault(api.ErrForm)
	case r.count == api.MaxIns, o.Kind == api.OpBlock && depth == api.MaxDepth:
		return api.Op{}, r.fault(api.ErrLarge)
	}
	r.count++
	r.at++
	return o, nil
}

// block reads the rest of a block of that depth.
func (r *reader) block(x *api.Ins, depth int) error {
	t, err := r.result()
	if err != nil {
		return err
	}
	x.T = t
	body, closed, err := r.list(depth, x.Op == opIf)
	if err != nil {
		return err
	}
	x.Body = body
	if closed != startElse {
		return nil
	}
	x.HasElse = true
	x.Else, _, err = r.list(depth, false)
	return err
}

func (r *reader) result() (int, error) {
	c, err := r.peek()
	if err != nil {
		return api.None, err
	}
	t := api.None
	switch c {
	case noResult:
	case result32:
		t = api.I32
	case result64:
		t = api.I64
	case float32Of, float64Of:
		return api.None, r.fault(api.ErrFloat)
	default:
		return api.None, r.fault(api.ErrForm)
	}
	r.at++
	return t, nil
}

// labels reads one more than are counted: the last one is what is gone to else.
func (r *reader) labels() ([]int, error) {
	start := r.at
	n, err := r.number()
	if err != nil {
		return nil, err
	}
	if n >= api.MaxList {
		return nil, spot(start, api.ErrLarge)
	}
	l := make([]int, n+1)
	for i := range l {
		if l[i], err = r.number(); err != nil {
			return nil, err
		}
	}
	return l, nil
}

func (r *reader) number() (int, error) {
	v, next, err := leb.U(r.b, r.at, numberBits)
	if err != nil {
		return 0, r.fault(api.ErrForm)
	}
	r.at = next
	return int(v), nil
}

// constant reads the bits of one of that type.
func (r *reader) constant(t int) (uint64, error) {
	bits := bits64
	if t == api.I32 {
		bits = bits32
	}
	v, next, err := leb.S(r.b, r.at, bits)
	if err != nil {
		return 0, r.fault(api.ErrForm)
	}
	r.at = next
	if t == api.I32 {
		return uint64(uint32(v)), nil
	}
	return uint64(v), nil
}

func (r *reader) zero() error {
	c, err := r.peek()
	if err != nil {
		return err
	}
	if c != zero {
		return r.fault(api.ErrForm)
	}
	r.at++
	return nil
}

// peek is the next byte, which isn't gone past: who finds a fault in it tells its place.
func (r *reader) peek() (byte, error) {
	if r.at == len(r.b) {
		return 0, r.fault(api.ErrForm)
	}
	return r.b[r.at], nil
}

func (r *reader) fault(code api.Code) error { return spot(r.at, code) }

func spot(at int, code api.Code) error { return &api.Spot{At: at, Err: code} }
