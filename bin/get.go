package bin

import (
	"errors"
	"slices"

	"grommet/api"
	"grommet/expr"
	"grommet/leb"
	"grommet/name"
	"grommet/sect"
)

// reader goes through a module's bytes once, from the front; at is the next one. Of b there is as much as ends with the part that is being read, so that all places are those of the whole. The first fault stays, and nothing is read behind it.
type reader struct {
	b   []byte
	at  int
	err error
}

// Decode reads one: P8.2.
func Decode(b []byte) (api.Module, error) {
	sections, err := sect.Split(b)
	if err != nil {
		return api.Module{}, err
	}
	r := &reader{b: b}
	m := api.Module{Start: noStart}
	var types []int
	for _, s := range sections {
		r.at = s.At
		r.part(len(s.Bytes), func() {
			if s.Id == idFuncs {
				types = getList(r, api.MaxItems, func() int { return r.number() })
			} else {
				r.section(&m, s.Id)
			}
		})
		if r.err != nil {
			return api.Module{}, r.err
		}
	}
	if len(types) != len(m.Funcs) {
		return api.Module{}, spot(len(b), api.ErrForm)
	}
	for i, t := range types {
		m.Funcs[i].Type = t
	}
	return m, nil
}

// section reads any but that of the functions' types, which aren't a part of the module till their code is known.
func (r *reader) section(m *api.Module, id int) {
	switch id {
	case idCustom:
		r.custom(m)
	case idTypes:
		m.Types = r.funcTypes()
	case idImports:
		m.Imports = r.imports()
	case idTables:
		m.Tables = getList(r, api.MaxItems, func() api.Limits { return r.table() })
	case idMems:
		m.Mems = getList(r, api.MaxItems, func() api.Limits { return r.limits() })
	case idGlobals:
		m.Globals = r.globals()
	case idExports:
		m.Exports = r.exports()
	case idStart:
		m.Start = r.number()
	case idElems:
		m.Elems = r.elems()
	case idCode:
		m.Funcs = r.funcs()
	case idDatas:
		m.Datas = r.datas()
	}
}

func (r *reader) funcTypes() []api.FuncType {
	return getList(r, api.MaxTypes, func() api.FuncType {
		r.only(funcType)
		return api.FuncType{Params: r.types(), Results: r.types()}
	})
}

func (r *reader) imports() []api.Import {
	return getList(r, api.MaxItems, func() api.Import {
		x := api.Import{Module: r.name(), Name: r.name(), Kind: r.kind()}
		switch x.Kind {
		case api.KindFunc:
			x.Type = r.number()
		case api.KindTable:
			x.Limits = r.table()
		case api.KindMemory:
			x.Limits = r.limits()
		case api.KindGlobal:
			x.Type = r.valueType()
			x.Mut = r.flag()
		}
		return x
	})
}

func (r *reader) globals() []api.Global {
	return getList(r, api.MaxItems, func() api.Global {
		return api.Global{Type: r.valueType(), Mut: r.flag(), Init: r.oneIns()}
	})
}

func (r *reader) exports() []api.Export {
	return getList(r, api.MaxItems, func() api.Export {
		return api.Export{Name: r.name(), Kind: r.kind(), Index: r.number()}
	})
}

func (r *reader) elems() []api.Elem {
	return getList(r, api.MaxItems, func() api.Elem {
		r.place()
		return api.Elem{Offset: r.oneIns(), Funcs: getList(r, api.MaxList, func() int { return r.number() })}
	})
}

func (r *reader) datas() []api.Data {
	return getList(r, api.MaxItems, func() api.Data {
		r.place()
		return api.Data{Offset: r.oneIns(), Bytes: r.bytes(api.MaxBytes)}
	})
}

// funcs has no types: these stand in a section of their own.
func (r *reader) funcs() []api.Func {
	return getList(r, api.MaxItems, func() api.Func {
		var f api.Func
		start := r.at
		size := r.number()
		if size > len(r.b)-r.at {
			r.fail(start, api.ErrForm)
			return f
		}
		r.part(size, func() {
			f.Locals = r.locals()
			f.Body = r.expr()
		})
		return f
	})
}

// locals has a limit for all of them, but none for how many runs they are told in.
func (r *reader) locals() []int {
	room := api.MaxLocals
	all := getList(r, maxNumber, func() run {
		start := r.at
		n := r.number()
		if n > room {
			r.fail(start, api.ErrLarge)
		}
		room -= n
		return run{count: n, kind: r.valueType()}
	})
	var l []int
	for _, x := range all {
		l = append(l, slices.Repeat([]int{x.kind}, x.count)...)
	}
	return l
}

// custom looks at how many there are behind what it has: so the promise asks.
func (r *reader) custom(m *api.Module) {
	first := r.at
	c := api.Custom{Name: r.name()}
	if len(r.b)-r.at > api.MaxBytes {
		r.fail(r.at, api.ErrLarge)
	}
	if len(m.Customs) == api.MaxItems {
		r.fail(first, api.ErrLarge)
	}
	c.Bytes = slices.Clone(r.b[r.at:])
	r.at = len(r.b)
	m.Customs = append(m.Customs, c)
}

// getList reads how many there are, and them; with a fault there are none.
func getList[T any](r *reader, limit int, read func() T) []T {
	var l []T
	for range r.count(limit) {
		x := read()
		if r.err != nil {
			return nil
		}
		l = append(l, x)
	}
	return l
}

func (r *reader) count(limit int) int {
	start := r.at
	n := r.number()
	if n > limit {
		r.fail(start, api.ErrLarge)
		return 0
	}
	return n
}

// part reads so many bytes, that are there, as a whole of their own: nothing of them may be left.
func (r *reader) part(size int, read func()) {
	whole := r.b
	r.b = whole[:r.at+size]
	read()
	if r.at < len(r.b) {
		r.fail(r.at, api.ErrForm)
	}
	r.b = whole
}

// types has one limit: a type may have as many results as parameters.
func (r *reader) types() []int {
	return getList(r, api.MaxLocals, func() int { return r.valueType() })
}

func (r *reader) bytes(limit int) []byte {
	return getList(r, limit, func() byte { return r.byte() })
}

// name is a text only if all of its bytes are there.
func (r *reader) name() string {
	text := r.bytes(api.MaxName)
	var s *api.Spot
	if errors.As(name.Check(text), &s) {
		r.fail(r.at-len(text)+s.At, api.ErrForm)
	}
	return string(text)
}

func (r *reader) table() api.Limits {
	r.only(tableType)
	return r.limits()
}

func (r *reader) limits() api.Limits {
	l := api.Limits{Has: r.flag(), Min: r.number()}
	if l.Has {
		l.Max = r.number()
	}
	return l
}

// oneIns reads the expression of one instruction.
func (r *reader) oneIns() api.Ins {
	start := r.at
	l := r.expr()
	if len(l) != 1 {
		r.fail(start, api.ErrForm)
		return api.Ins{}
	}
	return l[0]
}

func (r *reader) expr() []api.Ins {
	if r.err != nil {
		return nil
	}
	l, next, err := expr.Get(r.b, r.at)
	if err != nil {
		r.err = err
		return nil
	}
	r.at = next
	return l
}

func (r *reader) valueType() int {
	start := r.at
	switch r.byte() {
	case type32:
		return api.I32
	case type64:
		return api.I64
	case float32Of, float64Of:
		r.fail(start, api.ErrFloat)
	default:
		r.fail(start, api.ErrForm)
	}
	return api.None
}

func (r *reader) kind() int { return int(r.upTo(api.KindGlobal)) }

func (r *reader) flag() bool { return r.upTo(yes) == yes }

// upTo reads a byte from 0 on.
func (r *reader) upTo(last byte) byte {
	start := r.at
	c := r.byte()
	if c > last {
		r.fail(start, api.ErrForm)
	}
	return c
}

func (r *reader) only(c byte) {
	start := r.at
	if r.byte() != c {
		r.fail(start, api.ErrForm)
	}
}

func (r *reader) place() {
	start := r.at
	if r.number() != place {
		r.fail(start, api.ErrForm)
	}
}

func (r *reader) number() int {
	if r.err != nil {
		return 0
	}
	v, next, err := leb.U(r.b, r.at, numberBits)
	if err != nil {
		r.fail(r.at, api.ErrForm)
		return 0
	}
	r.at = next
	return int(v)
}

func (r *reader) byte() byte {
	if r.err != nil {
		return 0
	}
	if r.at == len(r.b) {
		r.fail(r.at, api.ErrForm)
		return 0
	}
	c := r.b[r.at]
	r.at++
	return c
}

func (r *reader) fail(at int, code api.Code) {
	if r.err == nil {
		r.err = spot(at, code)
	}
}

func spot(at int, code api.Code) error { return &api.Spot{At: at, Err: code} }
