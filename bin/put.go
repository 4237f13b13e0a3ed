package bin

import (
	"grommet/api"
	"grommet/expr"
	"grommet/leb"
	"grommet/name"
	"grommet/sect"
	"grommet/tree"
)

// writer has the bytes of what is being written, and the sections that are. What may not be leaves its error behind; what is written further on doesn't count then.
type writer struct {
	b        []byte
	sections []api.Section
	err      error
}

// Encode writes a module: P8.1.
func Encode(m api.Module) ([]byte, error) {
	if !tree.Small(m) {
		return nil, api.ErrLarge
	}
	w := &writer{}
	w.declarations(m)
	w.contents(m)
	if w.err != nil {
		return nil, w.err
	}
	return sect.Join(w.sections)
}

// declarations are the sections up to that of the exports.
func (w *writer) declarations(m api.Module) {
	putSection(w, idTypes, m.Types, func(t api.FuncType) {
		w.byte(funcType)
		w.types(t.Params)
		w.types(t.Results)
	})
	putSection(w, idImports, m.Imports, func(x api.Import) {
		w.name(x.Module)
		w.name(x.Name)
		w.imported(x)
	})
	putSection(w, idFuncs, m.Funcs, func(f api.Func) { w.number(f.Type) })
	putSection(w, idTables, m.Tables, func(l api.Limits) { w.table(l) })
	putSection(w, idMems, m.Mems, func(l api.Limits) { w.limits(l) })
	putSection(w, idGlobals, m.Globals, func(g api.Global) {
		w.valueType(g.Type)
		w.flag(g.Mut)
		w.expr(g.Init)
	})
	putSection(w, idExports, m.Exports, func(x api.Export) {
		w.name(x.Name)
		w.kind(x.Kind)
		w.number(x.Index)
	})
}

// contents are the sections behind them.
func (w *writer) contents(m api.Module) {
	if m.Start != noStart {
		w.section(idStart, func() { w.number(m.Start) })
	}
	putSection(w, idElems, m.Elems, func(e api.Elem) {
		w.number(place)
		w.expr(e.Offset)
		putList(w, e.Funcs, func(f int) { w.number(f) })
	})
	putSection(w, idCode, m.Funcs, func(f api.Func) {
		w.bytes(w.part(func() { w.code(f) }))
	})
	putSection(w, idDatas, m.Datas, func(d api.Data) {
		w.number(place)
		w.expr(d.Offset)
		w.bytes(d.Bytes)
	})
	for _, c := range m.Customs {
		w.section(idCustom, func() {
			w.name(c.Name)
			w.b = append(w.b, c.Bytes...)
		})
	}
}

// putSection writes the section of a list, if there is something of it.
func putSection[T any](w *writer, id int, l []T, put func(T)) {
	if len(l) > 0 {
		w.section(id, func() { putList(w, l, put) })
	}
}

func putList[T any](w *writer, l []T, put func(T)) {
	w.number(len(l))
	for _, x := range l {
		put(x)
	}
}

func (w *writer) section(id int, write func()) {
	w.sections = append(w.sections, api.Section{Id: id, Bytes: w.part(write)})
}

// part is what is written by a function, apart from what was written ahead of it: how many bytes it has stands in front.
func (w *writer) part(write func()) []byte {
	ahead := w.b
	w.b = nil
	write()
	part := w.b
	w.b = ahead
	return part
}

// imported takes out of what is imported what it writes: nothing may be left.
func (w *writer) imported(x api.Import) {
	w.kind(x.Kind)
	rest := api.Import{Type: x.Type, Mut: x.Mut, Limits: x.Limits}
	switch x.Kind {
	case api.KindFunc:
		w.number(x.Type)
		rest.Type = 0
	case api.KindTable:
		w.table(x.Limits)
		rest.Limits = api.Limits{}
	case api.KindMemory:
		w.limits(x.Limits)
		rest.Limits = api.Limits{}
	case api.KindGlobal:
		w.valueType(x.Type)
		w.flag(x.Mut)
		rest.Type, rest.Mut = 0, false
	}
	if rest != (api.Import{}) {
		w.refuse()
	}
}

func (w *writer) code(f api.Func) {
	putList(w, runs(f.Locals), func(x run) {
		w.number(x.count)
		w.valueType(x.kind)
	})
	w.expr(f.Body...)
}

// runs puts locals that stand side by side together.
func runs(l []int) []run {
	var all []run
	for i, t := range l {
		if i == 0 || t != l[i-1] {
			all = append(all, run{kind: t})
		}
		all[len(all)-1].count++
	}
	return all
}

func (w *writer) types(l []int) { putList(w, l, func(t int) { w.valueType(t) }) }

func (w *writer) bytes(l []byte) { putList(w, l, func(c byte) { w.byte(c) }) }

func (w *writer) table(l api.Limits) {
	w.byte(tableType)
	w.limits(l)
}

func (w *writer) limits(l api.Limits) {
	w.flag(l.Has)
	w.number(l.Min)
	if l.Has {
		w.number(l.Max)
	} else if l.Max != 0 {
		w.refuse()
	}
}

func (w *writer) expr(l ...api.Ins) {
	code, err := expr.Put(l)
	if err != nil {
		w.refuse()
	}
	w.b = append(w.b, code...)
}

func (w *writer) name(s string) {
	text := []byte(s)
	if name.Check(text) != nil {
		w.refuse()
	}
	w.bytes(text)
}

func (w *writer) valueType(t int) {
	switch t {
	case api.I32:
		w.byte(type32)
	case api.I64:
		w.byte(type64)
	default:
		w.refuse()
	}
}

func (w *writer) kind(k int) {
	if k < api.KindFunc || k > api.KindGlobal {
		w.refuse()
	}
	w.byte(byte(k))
}

func (w *writer) flag(is bool) {
	if is {
		w.byte(yes)
	} else {
		w.byte(no)
	}
}

func (w *writer) number(n int) {
	if n < 0 || uint64(n) > maxNumber {
		w.refuse()
	}
	w.b = append(w.b, leb.PutU(uint64(n))...)
}

func (w *writer) byte(c byte) { w.b = append(w.b, c) }

func (w *writer) refuse() { w.err = api.ErrArg }
