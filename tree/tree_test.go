package tree_test

import (
	"fmt"
	"math"
	"reflect"
	"slices"
	"strings"
	"testing"

	"grommet/api"
	"grommet/op"
	"grommet/tree"
)

const (
	opNop   = 0x01
	opBlock = 0x02
	opLoop  = 0x03
	opIf    = 0x04
	opTable = 0x0e
	const32 = 0x41
	const64 = 0x42
)

var nop = api.Ins{Op: opNop}

func nops(n int) []api.Ins { return slices.Repeat([]api.Ins{nop}, n) }

// nested is a nop in n operations of that byte.
func nested(code, n int) []api.Ins {
	l := []api.Ins{nop}
	for range n {
		l = []api.Ins{{Op: code, Body: l}}
	}
	return l
}

// counting tells the fields that count, by the operation's byte, as the chapter has them.
func counting(code int) []string {
	switch {
	case code == opBlock, code == opLoop:
		return []string{"T", "Body"}
	case code == opIf:
		return []string{"T", "Body", "HasElse"}
	case code == opTable:
		return []string{"L"}
	case slices.Contains([]int{0x0c, 0x0d, 0x10, 0x11, 0x20, 0x21, 0x22, 0x23, 0x24}, code):
		return []string{"A"}
	case code >= 0x28 && code <= 0x3e && !slices.Contains([]int{0x2a, 0x2b, 0x38, 0x39}, code): // these are floats'
		return []string{"A", "B"}
	case code == const32, code == const64:
		return []string{"V"}
	}
	return nil
}

// plain is an instruction of that byte that may be.
func plain(code int) api.Ins {
	x := api.Ins{Op: code}
	if code == opTable {
		x.L = []int{0}
	}
	return x
}

// fields set one field each to something that isn't 0, false or empty.
var fields = map[string]func(*api.Ins){
	"A":       func(x *api.Ins) { x.A = 1 },
	"B":       func(x *api.Ins) { x.B = 1 },
	"V":       func(x *api.Ins) { x.V = 1 },
	"T":       func(x *api.Ins) { x.T = api.I64 },
	"L":       func(x *api.Ins) { x.L = []int{1} },
	"Body":    func(x *api.Ins) { x.Body = nops(1) },
	"Else":    func(x *api.Ins) { x.Else = nops(1) },
	"HasElse": func(x *api.Ins) { x.HasElse = true },
}

func checkMay(t *testing.T, want bool, l ...api.Ins) {
	t.Helper()
	if got := tree.May(l); got != want {
		t.Errorf("May(%+v) = %v", l, got)
	}
}

// P5.1: of each operation just those fields may be there that count of it.
func TestMayFields(t *testing.T) {
	there := 0
	for code := -2; code < 0x202; code++ {
		_, err := op.Look(code)
		if err != nil {
			checkMay(t, false, plain(code))
			continue
		}
		there++
		checkMay(t, true, plain(code))
		for name, set := range fields {
			x := plain(code)
			set(&x)
			checkMay(t, slices.Contains(counting(code), name), x)
		}
		empty := plain(code)
		empty.Body, empty.Else = []api.Ins{}, []api.Ins{}
		if code != opTable {
			empty.L = []int{}
		}
		checkMay(t, true, empty)
	}
	if there != 41+2*29+3 {
		t.Error("operations:", there)
	}
	for _, code := range []int{math.MinInt, math.MaxInt, 1<<32 + opNop, -1 << 32} {
		checkMay(t, false, api.Ins{Op: code})
	}
}

// P5.1: numbers are from 0 to 2^32 - 1.
func TestMayNumbers(t *testing.T) {
	for code := range 0x100 {
		for _, name := range counting(code) {
			for n, want := range map[int]bool{0: true, 1: true, 1<<31 - 1: true, 1 << 31: true, 1<<32 - 1: true, 1 << 32: false, 1<<32 + 1: false, -1: false, math.MinInt: false, math.MinInt + 1: false, math.MaxInt: false, -1 << 31: false} {
				switch name {
				case "A":
					checkMay(t, want, api.Ins{Op: code, A: n})
					checkMay(t, want, nop, api.Ins{Op: code, A: n}, nop)
				case "B":
					checkMay(t, want, api.Ins{Op: code, B: n})
					checkMay(t, want, api.Ins{Op: code, A: 3, B: n})
				case "L":
					checkMay(t, want, api.Ins{Op: code, L: []int{n}})
					checkMay(t, want, api.Ins{Op: code, L: []int{n, 0, 0}})
					checkMay(t, want, api.Ins{Op: code, L: []int{0, n, 0}})
					checkMay(t, want, api.Ins{Op: code, L: []int{0, 0, n}})
				case "T":
					checkMay(t, n == 0 || n == 1, api.Ins{Op: code, T: n})
				}
			}
		}
	}
	// How many there are isn't looked at.
	checkMay(t, true, api.Ins{Op: opTable, L: make([]int, api.MaxList+1)})
	checkMay(t, false, api.Ins{Op: opTable})
	checkMay(t, false, api.Ins{Op: opTable, L: []int{}})
	checkMay(t, false, api.Ins{Op: opTable, L: []int{0}, A: 1})
}

// P5.1: of an I32 a constant is below 2^32.
func TestMayConst(t *testing.T) {
	for v, want := range map[uint64]bool{0: true, 1 << 31: true, 1<<32 - 1: true, 1 << 32: false, 1<<32 + 1: false, 1 << 63: false, math.MaxUint64: false} {
		checkMay(t, want, api.Ins{Op: const32, V: v})
		checkMay(t, true, api.Ins{Op: const64, V: v})
	}
}

// P5.1: a block has a result that there is, and what may be in it.
func TestMayBlock(t *testing.T) {
	bad := api.Ins{Op: opNop, A: 1}
	for _, code := range []int{opBlock, opLoop, opIf} {
		for result, want := range map[int]bool{api.None: true, api.I32: true, api.I64: true, 3: false, -1: false, 0x40: false, 0x7f: false, math.MaxInt: false, 1<<32 + 1: false} {
			checkMay(t, want, api.Ins{Op: code, T: result})
		}
		checkMay(t, true, api.Ins{Op: code, Body: nops(3)})
		checkMay(t, false, api.Ins{Op: code, Body: []api.Ins{nop, bad}})
		checkMay(t, false, api.Ins{Op: code, Body: []api.Ins{bad, nop}})
		checkMay(t, false, api.Ins{Op: code, Body: []api.Ins{{Op: opBlock, Body: []api.Ins{bad}}}})
		checkMay(t, code == opIf, api.Ins{Op: code, HasElse: true})
		checkMay(t, code == opIf, api.Ins{Op: code, HasElse: true, Body: nops(2), Else: nops(2)})
		checkMay(t, false, api.Ins{Op: code, HasElse: true, Else: []api.Ins{nop, bad}})
		checkMay(t, false, api.Ins{Op: code, HasElse: true, Body: []api.Ins{bad}, Else: nops(1)})
		checkMay(t, false, api.Ins{Op: code, Body: nops(1), Else: nops(1)})
		checkMay(t, true, api.Ins{Op: code, Else: []api.Ins{}})
		checkMay(t, false, api.Ins{Op: code, A: 1, Body: nops(1)})
	}
	checkMay(t, true, api.Ins{Op: opIf, HasElse: true, Else: []api.Ins{{Op: opIf, HasElse: true, Else: nops(1)}}})
	checkMay(t, false, api.Ins{Op: opIf, HasElse: true, Else: []api.Ins{{Op: opIf, Else: nops(1)}}})
}

// P5.1: of lists all must be, wherever they stand; of none all are.
func TestMayLists(t *testing.T) {
	checkMay(t, true)
	if !tree.May(nil) || !tree.May([]api.Ins{}) {
		t.Error("nothing may not be")
	}
	// Limits are Small's.
	checkMay(t, true, nops(api.MaxIns+1)...)
	checkMay(t, true, nested(opBlock, api.MaxDepth+1)...)
	for i := range 5 {
		for _, bad := range []api.Ins{{Op: 0x43}, {Op: 0x05}, {Op: 0x0b}, {Op: opNop, V: 1}} {
			l := nops(5)
			l[i] = bad
			checkMay(t, false, l...)
		}
	}
}

func checkCount(t *testing.T, count, depth int, l ...api.Ins) {
	t.Helper()
	if n, d := tree.Count(l); n != count || d != depth {
		t.Errorf("Count(%+v) = %d, %d; not %d, %d", l, n, d, count, depth)
	}
}

// P5.1: all instructions count, those in blocks, too.
func TestCount(t *testing.T) {
	checkCount(t, 0, 0)
	if n, d := tree.Count(nil); n != 0 || d != 0 {
		t.Error("Count of nil:", n, d)
	}
	checkCount(t, 2, 1, api.Ins{Op: opBlock, Body: nops(1)}) // the chapter's example
	for _, n := range []int{1, 2, 512, 513, 5000} {
		checkCount(t, n, 0, nops(n)...)
	}
	for _, code := range []int{opBlock, opLoop, opIf} {
		checkCount(t, 1, 1, api.Ins{Op: code})
		checkCount(t, 4, 1, api.Ins{Op: code, Body: nops(3)})
		checkCount(t, 8, 1, api.Ins{Op: code, Body: nops(3), HasElse: true, Else: nops(4)})
		for _, n := range []int{1, 2, 32, 33, 1000} {
			checkCount(t, n+1, n, nested(code, n)...)
		}
	}
	two, three := nested(opLoop, 2), nested(opIf, 3)
	checkCount(t, 1+3+4, 4, api.Ins{Op: opIf, Body: two, HasElse: true, Else: three})
	checkCount(t, 1+3+4, 4, api.Ins{Op: opIf, Body: three, HasElse: true, Else: two})
	checkCount(t, 3+4+1, 3, two[0], three[0], nop)
	checkCount(t, 1+4+3, 3, nop, three[0], two[0])
	checkCount(t, 1+4+3+4, 4, api.Ins{Op: opBlock, Body: slices.Concat(three, two)}, three[0])
}

// P5.1: Count tells it whatever they are; what is no block makes nothing deeper.
func TestCountAny(t *testing.T) {
	for code := -2; code < 0x102; code++ {
		depth := 0
		if code >= opBlock && code <= opIf {
			depth = 1
		}
		checkCount(t, 1, depth, api.Ins{Op: code})
		// Neither HasElse, nor what else there is, is asked for.
		checkCount(t, 6, depth, api.Ins{Op: code, A: -1, B: 1 << 40, V: 7, T: 99, L: []int{1, 2, 3}, Body: nops(3), Else: nops(2)})
		checkCount(t, 1, depth, api.Ins{Op: code, HasElse: true})
		checkCount(t, 1+3, 3*depth, api.Ins{Op: code, Else: nested(opBlock, 2)})
		checkCount(t, 1+3, 3*depth, api.Ins{Op: code, Body: nested(opBlock, 2)})
		checkCount(t, 5, 1+3*depth, api.Ins{Op: opLoop, Body: []api.Ins{{Op: code, Body: nested(opBlock, 2)}}})
	}
}

// full is a module in which every field of every type stands, and says something; none of its lists shares memory with another.
func full() api.Module {
	code := func() []api.Ins {
		return []api.Ins{
			{Op: opIf, A: 2, B: 3, V: 4, T: api.I32, L: []int{5, 6}, HasElse: true,
				Body: []api.Ins{{Op: opLoop, Body: []api.Ins{{Op: opTable, L: []int{1, 0}}}}, nop},
				Else: []api.Ins{{Op: const64, V: math.MaxUint64}, {Op: 0x28, A: 2, B: 8}}},
			{Op: 0x20, A: 1},
		}
	}
	one := func() api.Ins { return code()[0] }
	return api.Module{
		Types: []api.FuncType{{}, {Params: []int{api.I32, api.I64}, Results: []int{api.I64}}, {Results: []int{api.I32}}},
		Imports: []api.Import{
			{Module: "a", Name: "f", Kind: api.KindFunc, Type: 2},
			{Module: "a", Name: "t", Kind: api.KindTable, Limits: api.Limits{Min: 1, Max: 2, Has: true}},
			{Module: "b", Name: "g", Kind: api.KindGlobal, Type: api.I64, Mut: true},
		},
		Funcs:   []api.Func{{Type: 1, Locals: []int{api.I32, api.I64}, Body: code()}, {Type: 2, Body: nops(1)}},
		Tables:  []api.Limits{{Min: 1}, {Min: 2, Max: 3, Has: true}},
		Mems:    []api.Limits{{Min: 4, Max: 5, Has: true}, {Min: 6}},
		Globals: []api.Global{{Type: api.I32, Mut: true, Init: one()}, {Type: api.I64, Init: api.Ins{Op: const64}}},
		Exports: []api.Export{{Name: "x", Kind: api.KindMemory, Index: 7}, {Name: "y"}},
		Start:   1,
		Elems:   []api.Elem{{Offset: one(), Funcs: []int{1, 2}}, {}},
		Datas:   []api.Data{{Offset: one(), Bytes: []byte("bytes")}, {}},
		Customs: []api.Custom{{Name: "c", Bytes: []byte{0, 255}}, {}},
	}
}

func checkSame(t *testing.T, want bool, a, b api.Module, what string) {
	t.Helper()
	// P5.5: either way round.
	if tree.Same(a, b) != want || tree.Same(b, a) != want {
		t.Errorf("Same is %v, %v: %s", tree.Same(a, b), tree.Same(b, a), what)
	}
}

// eachPlace goes through all that v is made of, the deepest first; path names it.
func eachPlace(v reflect.Value, path string, visit func(reflect.Value, string)) {
	switch v.Kind() {
	case reflect.Struct:
		for i := range v.NumField() {
			eachPlace(v.Field(i), path+"."+v.Type().Field(i).Name, visit)
		}
		return
	case reflect.Slice:
		for i := range v.Len() {
			eachPlace(v.Index(i), fmt.Sprintf("%s[%d]", path, i), visit)
		}
	}
	visit(v, path)
}

// others are what may stand at a place instead of what does: never the same.
func others(t *testing.T, v reflect.Value) []reflect.Value {
	var l []reflect.Value
	other := func(set func(reflect.Value)) {
		x := reflect.New(v.Type()).Elem()
		x.Set(v)
		set(x)
		l = append(l, x)
	}
	switch v.Kind() {
	case reflect.Int:
		other(func(x reflect.Value) { x.SetInt(v.Int() + 1) })
		other(func(x reflect.Value) { x.SetInt(v.Int() + 1<<32) })
		other(func(x reflect.Value) { x.SetInt(^v.Int()) })
	case reflect.Uint64, reflect.Uint8:
		other(func(x reflect.Value) { x.SetUint(v.Uint() ^ 1) })
		other(func(x reflect.Value) { x.SetUint(v.Uint() ^ 1<<(v.Type().Bits()-1)) })
	case reflect.Bool:
		other(func(x reflect.Value) { x.SetBool(!v.Bool()) })
	case reflect.String:
		other(func(x reflect.Value) { x.SetString(v.String() + "\x00") })
		other(func(x reflect.Value) { x.SetString(strings.ToUpper(v.String()) + "é") })
	case reflect.Slice:
		other(func(x reflect.Value) { x.Set(reflect.Append(v, reflect.Zero(v.Type().Elem()))) })
		if n := v.Len(); n > 0 {
			other(func(x reflect.Value) { x.Set(v.Slice(0, n-1)) })
			other(func(x reflect.Value) { x.Set(v.Slice(1, n)) })
			other(func(x reflect.Value) { x.SetZero() })
		}
	default:
		t.Fatal("no such kind:", v.Kind())
	}
	return l
}

// P5.2: a difference anywhere is seen, also in a field that doesn't count.
func TestSameAll(t *testing.T) {
	m, other := full(), full()
	checkSame(t, true, m, other, "the same, made twice")
	places := 0
	eachPlace(reflect.ValueOf(&other).Elem(), "", func(v reflect.Value, path string) {
		was := reflect.New(v.Type()).Elem()
		was.Set(v)
		for _, x := range others(t, v) {
			places++
			v.Set(x)
			checkSame(t, false, m, other, path)
			v.Set(was)
		}
	})
	if places < 500 {
		t.Error("places:", places)
	}
	checkSame(t, true, m, other, "as it was")
}

// P5.2: no order is the same but their own.
func TestSameOrder(t *testing.T) {
	m, other := full(), full()
	n := 0
	eachPlace(reflect.ValueOf(&other).Elem(), "", func(v reflect.Value, path string) {
		if v.Kind() != reflect.Slice || v.Len() < 2 {
			return
		}
		n++
		swap := reflect.Swapper(v.Interface())
		swap(0, v.Len()-1)
		checkSame(t, false, m, other, path)
		swap(0, v.Len()-1)
	})
	if n < 20 {
		t.Error("lists:", n)
	}
}

// P5.2: nil and empty lists are the same, wherever they stand.
func TestSameEmpty(t *testing.T) {
	for _, make := range []func() api.Module{full, func() api.Module { return api.Module{} }, func() api.Module {
		return api.Module{Types: []api.FuncType{{}}, Funcs: []api.Func{{Body: nops(1)}}, Globals: []api.Global{{}}, Elems: []api.Elem{{}}, Datas: []api.Data{{}}, Customs: []api.Custom{{}}}
	}} {
		m, other := make(), make()
		n := 0
		eachPlace(reflect.ValueOf(&other).Elem(), "", func(v reflect.Value, path string) {
			if v.Kind() == reflect.Slice && v.Len() == 0 {
				n++
				v.Set(reflect.MakeSlice(v.Type(), 0, 3))
				checkSame(t, true, m, other, path)
			}
		})
		if n < 10 {
			t.Error("lists:", n)
		}
	}
}

// P5.2: Start is held against Start, also where there is none.
func TestSameStart(t *testing.T) {
	checkSame(t, true, api.Module{Start: -1}, api.Module{Start: -1}, "none")
	checkSame(t, false, api.Module{Start: -1}, api.Module{}, "none and 0")
	checkSame(t, false, full(), api.Module{}, "something and nothing")
}

// P5.5: Same is so of itself, and either way round, whatever they are.
func TestSameFollows(t *testing.T) {
	l := []api.Module{{}, {Start: -1}, full(), {Types: []api.FuncType{{}}}, {Mems: []api.Limits{{}}}, {Tables: []api.Limits{{}}}, {Customs: []api.Custom{{}}}, {Datas: []api.Data{{}}}, {Funcs: []api.Func{{Body: nested(opIf, 40)}}}}
	for i, a := range l {
		for j, b := range l {
			checkSame(t, i == j, a, b, fmt.Sprint(i, j))
		}
	}
}

// P5.5: a list counts as many as its parts, and is as deep as the deepest.
func TestCountFollows(t *testing.T) {
	var l []api.Ins
	for _, f := range full().Funcs {
		l = append(l, f.Body...)
	}
	l = append(l, nested(opLoop, 5)...)
	l = append(l, api.Ins{Op: 99, Body: nops(7)}, nop, api.Ins{Op: opIf, Else: nested(opBlock, 9)})
	l = append(l, l...)
	whole, deep := tree.Count(l)
	for i := range len(l) + 1 {
		n, d := tree.Count(l[:i])
		k, e := tree.Count(l[i:])
		if n+k != whole || max(d, e) != deep {
			t.Errorf("cut at %d: %d, %d and %d, %d; all %d, %d", i, n, d, k, e, whole, deep)
		}
	}
	sum := 0
	for _, x := range l {
		n, _ := tree.Count([]api.Ins{x})
		body, _ := tree.Count(x.Body)
		other, _ := tree.Count(x.Else)
		if n != 1+body+other {
			t.Error(n, body, other)
		}
		sum += n
	}
	if sum != whole {
		t.Error(sum, whole)
	}
}

// limited is a thing that has a limit: how many it may be, and a module with that many of it.
type limited struct {
	name  string
	limit int
	make  func(n int) api.Module
}

func withBody(l []api.Ins) api.Module { return api.Module{Funcs: []api.Func{{}, {Body: l}}} }
func withInit(x api.Ins) api.Module   { return api.Module{Globals: []api.Global{{}, {Init: x}}} }
func withElem(x api.Ins) api.Module   { return api.Module{Elems: []api.Elem{{}, {Offset: x}}} }
func withData(x api.Ins) api.Module   { return api.Module{Datas: []api.Data{{}, {Offset: x}}} }

var lists = []limited{
	{"types", 64, func(n int) api.Module { return api.Module{Types: make([]api.FuncType, n)} }},
	{"imports", 64, func(n int) api.Module { return api.Module{Imports: make([]api.Import, n)} }},
	{"functions", 64, func(n int) api.Module { return api.Module{Funcs: make([]api.Func, n)} }},
	{"tables", 64, func(n int) api.Module { return api.Module{Tables: make([]api.Limits, n)} }},
	{"memories", 64, func(n int) api.Module { return api.Module{Mems: make([]api.Limits, n)} }},
	{"globals", 64, func(n int) api.Module { return api.Module{Globals: make([]api.Global, n)} }},
	{"exports", 64, func(n int) api.Module { return api.Module{Exports: make([]api.Export, n)} }},
	{"elements", 64, func(n int) api.Module { return api.Module{Elems: make([]api.Elem, n)} }},
	{"data", 64, func(n int) api.Module { return api.Module{Datas: make([]api.Data, n)} }},
	{"customs", 64, func(n int) api.Module { return api.Module{Customs: make([]api.Custom, n)} }},
	{"params", 64, func(n int) api.Module { return api.Module{Types: []api.FuncType{{}, {Params: make([]int, n)}}} }},
	{"results", 64, func(n int) api.Module { return api.Module{Types: []api.FuncType{{}, {Results: make([]int, n)}}} }},
	{"locals", 64, func(n int) api.Module { return api.Module{Funcs: []api.Func{{}, {Locals: make([]int, n)}}} }},
	{"an element's functions", 64, func(n int) api.Module { return api.Module{Elems: []api.Elem{{}, {Funcs: make([]int, n)}}} }},
	{"data's bytes", 4096, func(n int) api.Module { return api.Module{Datas: []api.Data{{}, {Bytes: make([]byte, n)}}} }},
	{"a custom's bytes", 4096, func(n int) api.Module { return api.Module{Customs: []api.Custom{{}, {Bytes: make([]byte, n)}}} }},
}

var named = []limited{
	{"an import's module", 64, func(n int) api.Module {
		return api.Module{Imports: []api.Import{{}, {Module: strings.Repeat("m", n)}}}
	}},
	{"an import's name", 64, func(n int) api.Module {
		return api.Module{Imports: []api.Import{{}, {Name: strings.Repeat("\xff", n)}}}
	}},
	{"an export's name", 64, func(n int) api.Module {
		return api.Module{Exports: []api.Export{{}, {Name: strings.Repeat("\x00", n)}}}
	}},
	{"a custom's name", 64, func(n int) api.Module { return api.Module{Customs: []api.Custom{{}, {Name: strings.Repeat("c", n)}}} }},
}

var coded = []limited{
	{"a function's instructions", 512, func(n int) api.Module { return withBody(nops(n)) }},
	{"a function's, in a block", 511, func(n int) api.Module { return withBody([]api.Ins{{Op: opBlock, Body: nops(n)}}) }},
	{"a function's, in an else", 511, func(n int) api.Module { return withBody([]api.Ins{{Op: opIf, HasElse: true, Else: nops(n)}}) }},
	{"Init's instructions", 511, func(n int) api.Module { return withInit(api.Ins{Op: opLoop, Body: nops(n)}) }},
	{"an element's Offset's instructions", 511, func(n int) api.Module { return withElem(api.Ins{Op: opLoop, Else: nops(n)}) }},
	{"data's Offset's instructions", 511, func(n int) api.Module { return withData(api.Ins{Op: opLoop, Body: nops(n)}) }},
	{"a function's depth", 32, func(n int) api.Module { return withBody(append(nops(3), nested(opBlock, n)...)) }},
	{"Init's depth", 32, func(n int) api.Module { return withInit(nested(opLoop, n)[0]) }},
	{"an element's Offset's depth", 32, func(n int) api.Module { return withElem(nested(opIf, n)[0]) }},
	{"data's Offset's depth", 32, func(n int) api.Module { return withData(nested(opBlock, n)[0]) }},
}

var labelled = []limited{
	{"L", 64, func(n int) api.Module { return withBody([]api.Ins{nop, {Op: opTable, L: make([]int, n)}}) }},
	{"L in a block", 64, func(n int) api.Module {
		return withBody([]api.Ins{{Op: opBlock, Body: []api.Ins{nop, {Op: opTable, L: make([]int, n)}}}})
	}},
	{"L in an else", 64, func(n int) api.Module {
		return withBody([]api.Ins{{Op: opIf, Else: []api.Ins{{Op: opBlock, Body: []api.Ins{{Op: opTable, L: make([]int, n)}}}}}})
	}},
	{"L of what has none", 64, func(n int) api.Module { return withBody([]api.Ins{{Op: opNop, L: make([]int, n)}}) }},
	{"L in what has none", 64, func(n int) api.Module {
		return withBody([]api.Ins{{Op: 99, Else: []api.Ins{{Op: opTable, L: make([]int, n)}}}})
	}},
	{"Init's L", 64, func(n int) api.Module { return withInit(api.Ins{Op: opTable, L: make([]int, n)}) }},
	{"an element's Offset's L", 64, func(n int) api.Module { return withElem(api.Ins{Op: opTable, L: make([]int, n)}) }},
	{"data's Offset's L", 64, func(n int) api.Module {
		return withData(api.Ins{Op: opBlock, Body: []api.Ins{{Op: opTable, L: make([]int, n)}}})
	}},
}

// P5.2: what has a limit is small up to it, and not above it.
func TestSmallLimits(t *testing.T) {
	for _, x := range slices.Concat(lists, named, coded, labelled) {
		for _, n := range []int{1, x.limit - 1, x.limit} {
			if !tree.Small(x.make(n)) {
				t.Errorf("%s: %d aren't small", x.name, n)
			}
		}
		for _, n := range []int{x.limit + 1, x.limit + 2, 2 * x.limit, 10 * x.limit, x.limit + 256} {
			if tree.Small(x.make(n)) {
				t.Errorf("%s: %d are small", x.name, n)
			}
		}
	}
}

// P5.2: the limits are of each, not of all together.
func TestSmallEach(t *testing.T) {
	m := api.Module{Tables: make([]api.Limits, 64), Mems: make([]api.Limits, 64)}
	long := strings.Repeat("n", 64)
	// One instruction is a block that has the 511 others.
	code := []api.Ins{{Op: opIf, Body: append(nested(opBlock, 31), nops(379)...), HasElse: true, Else: slices.Repeat([]api.Ins{{Op: opTable, L: make([]int, 64)}}, 100)}}
	if n, d := tree.Count(code); n != 512 || d != 32 {
		t.Fatal(n, d)
	}
	for range 64 {
		m.Types = append(m.Types, api.FuncType{Params: make([]int, 64), Results: make([]int, 64)})
		m.Imports = append(m.Imports, api.Import{Module: long, Name: long})
		// A function's parameters aren't counted with its locals.
		m.Funcs = append(m.Funcs, api.Func{Locals: make([]int, 64), Body: code})
		m.Globals = append(m.Globals, api.Global{Init: code[0]})
		m.Exports = append(m.Exports, api.Export{Name: long})
		m.Elems = append(m.Elems, api.Elem{Offset: code[0], Funcs: make([]int, 64)})
		m.Datas = append(m.Datas, api.Data{Offset: code[0], Bytes: make([]byte, 4096)})
		m.Customs = append(m.Customs, api.Custom{Name: long, Bytes: make([]byte, 4096)})
	}
	if !tree.Small(m) {
		t.Error("it isn't small")
	}
	m.Datas[63].Bytes = make([]byte, 4097)
	if tree.Small(m) {
		t.Error("it is small")
	}
}

// P5.2: whatever else a module says, it is small.
func TestSmallAny(t *testing.T) {
	for _, m := range []api.Module{{}, full(), {Start: math.MinInt}, {Start: 1 << 40},
		{Mems: []api.Limits{{Min: 1 << 40, Max: -1}}},
		{Imports: []api.Import{{Kind: 99, Type: -7, Limits: api.Limits{Min: 1 << 50}}}},
		{Funcs: []api.Func{{Type: -1, Locals: []int{99}, Body: []api.Ins{{Op: 0x43, A: -1, B: 1 << 60}}}}},
		{Exports: []api.Export{{Name: "x"}, {Name: "x", Kind: 9, Index: 1 << 40}}},
	} {
		if !tree.Small(m) {
			t.Errorf("%+v isn't small", m)
		}
	}
}

// mixed has two imports of each kind, and of kinds that there are not, none of them side by side.
func mixed() api.Module {
	m := api.Module{
		Types:   []api.FuncType{{Params: []int{api.I32}}, {Results: []int{api.I64}}, {}, {Params: []int{api.I64, api.I32, api.I32}, Results: []int{api.I32}}},
		Funcs:   []api.Func{{Type: 0}, {Type: 3}, {Type: 4}, {Type: -1}, {Type: 2}},
		Tables:  []api.Limits{{}},
		Mems:    []api.Limits{{}, {}, {}},
		Globals: []api.Global{{Type: api.I32, Mut: true}, {Type: api.I64}, {Type: api.I64, Mut: true}, {Type: 99}},
	}
	for i := range 2 {
		for _, kind := range []int{api.KindGlobal, api.KindFunc, 4, api.KindTable, -1, api.KindMemory} {
			m.Imports = append(m.Imports, api.Import{Kind: kind, Type: 1 + i, Mut: i == 1})
		}
	}
	return m
}

// P5.3: a space is what is imported of its kind, and the module's own.
func TestSpace(t *testing.T) {
	m := mixed()
	for kind, want := range map[int]int{api.KindFunc: 7, api.KindTable: 3, api.KindMemory: 5, api.KindGlobal: 6, 4: 0, -1: 0, 7: 0, math.MinInt: 0, math.MaxInt: 0, 1 << 32: 0} {
		if got := tree.Space(m, kind); got != want {
			t.Errorf("Space(%d) = %d, not %d", kind, got, want)
		}
	}
	for kind := -1; kind <= 5; kind++ {
		if got := tree.Space(api.Module{}, kind); got != 0 {
			t.Errorf("Space(%d) of nothing = %d", kind, got)
		}
		one, want := api.Module{Imports: []api.Import{{Kind: kind}}}, 1
		if kind < 0 || kind > 3 {
			want = 0
		}
		if got := tree.Space(one, kind); got != want {
			t.Errorf("Space(%d) of one that is imported = %d", kind, got)
		}
	}
}

func sameType(a, b api.FuncType) bool {
	return slices.Equal(a.Params, b.Params) && slices.Equal(a.Results, b.Results)
}

// P5.3: imported functions come first, in their order, then the module's own.
func TestFuncType(t *testing.T) {
	m := mixed()
	for f, number := range []int{1, 2, 0, 3, -1, -1, 2} {
		got, err := tree.FuncType(m, f)
		if number < 0 {
			if err != error(api.ErrNone) || !sameType(got, api.FuncType{}) {
				t.Errorf("FuncType(%d) = %+v, %v; not ErrNone", f, got, err)
			}
		} else if err != nil || !sameType(got, m.Types[number]) {
			t.Errorf("FuncType(%d) = %+v, %v; not %+v", f, got, err, m.Types[number])
		}
	}
}

// P5.3: what isn't there is ErrNone, itself, and nothing else is told.
func TestFuncTypeNone(t *testing.T) {
	check := func(m api.Module, f int) {
		t.Helper()
		if got, err := tree.FuncType(m, f); err != error(api.ErrNone) || !sameType(got, api.FuncType{}) {
			t.Errorf("FuncType(%d) = %+v, %v; not ErrNone", f, got, err)
		}
	}
	for _, f := range []int{-1, -2, 7, 8, 1 << 32, math.MinInt, math.MinInt + 1, math.MaxInt} {
		check(mixed(), f)
	}
	check(api.Module{}, 0)
	check(api.Module{Types: []api.FuncType{{}}, Globals: make([]api.Global, 3), Imports: []api.Import{{Kind: api.KindGlobal}, {Kind: 4}}}, 0)
	for _, number := range []int{-1, 1, 1 << 32, math.MinInt, math.MaxInt} {
		check(api.Module{Types: []api.FuncType{{}}, Funcs: []api.Func{{Type: number}}}, 0)
		check(api.Module{Types: []api.FuncType{{}}, Imports: []api.Import{{Kind: api.KindFunc, Type: number}}}, 0)
	}
	check(api.Module{Funcs: []api.Func{{}}}, 0)
	check(api.Module{Imports: []api.Import{{Kind: api.KindFunc}}}, 0)
}

// P5.3: of a global its type, whether it may be changed, and whether it is imported.
func TestGlobal(t *testing.T) {
	m := mixed()
	type global struct {
		kind     int
		mut, far bool
	}
	for g, want := range []global{{api.I32, false, true}, {api.I64, true, true}, {api.I32, true, false}, {api.I64, false, false}, {api.I64, true, false}, {99, false, false}} {
		kind, mut, far, err := tree.Global(m, g)
		if err != nil || (global{kind, mut, far}) != want {
			t.Errorf("Global(%d) = %d, %v, %v, %v; not %+v", g, kind, mut, far, err, want)
		}
	}
	none := func(m api.Module, g int) {
		t.Helper()
		if kind, mut, far, err := tree.Global(m, g); err != error(api.ErrNone) || kind != 0 || mut || far {
			t.Errorf("Global(%d) = %d, %v, %v, %v; not ErrNone", g, kind, mut, far, err)
		}
	}
	for _, g := range []int{-1, -2, 6, 7, 1 << 32, math.MinInt, math.MinInt + 1, math.MaxInt} {
		none(m, g)
	}
	none(api.Module{}, 0)
	none(api.Module{Types: make([]api.FuncType, 3), Funcs: make([]api.Func, 3), Imports: []api.Import{{Kind: api.KindFunc}, {Kind: 4}, {Kind: -1}}}, 0)
}

// P5.4: what is handed in stays as it is.
func TestUnchanged(t *testing.T) {
	for _, make := range []func() api.Module{full, mixed} {
		m, was := make(), make()
		tree.Same(m, make())
		tree.Small(m)
		for _, f := range m.Funcs {
			tree.May(f.Body)
			tree.Count(f.Body)
		}
		for i := -1; i < 8; i++ {
			tree.Space(m, i)
			tree.FuncType(m, i)
			tree.Global(m, i)
		}
		if !reflect.DeepEqual(m, was) {
			t.Errorf("it was changed: %+v", m)
		}
	}
}

// P5.4: who changes what was told changes neither the module nor another answer.
func TestNewMemory(t *testing.T) {
	// The module's own lists lie side by side, and have room behind them.
	room := []int{api.I32, api.I64, api.I64, api.I32, api.I32}
	m := api.Module{Types: []api.FuncType{{Params: room[:2], Results: room[1:3]}}, Funcs: []api.Func{{}, {}}}
	was, want := slices.Clone(room), api.FuncType{Params: []int{api.I32, api.I64}, Results: []int{api.I64, api.I64}}
	for f := range 2 {
		a, err := tree.FuncType(m, f)
		b, _ := tree.FuncType(m, f)
		if err != nil || !sameType(a, want) {
			t.Fatalf("%+v, %v", a, err)
		}
		for i := range a.Params {
			a.Params[i] = 77
		}
		_ = append(a.Params, 77)
		if !slices.Equal(a.Results, want.Results) {
			t.Error("lists of one answer share memory:", a)
		}
		for i := range a.Results {
			a.Results[i] = 88
		}
		_ = append(a.Results, 88)
		if !sameType(b, want) || !slices.Equal(room, was) {
			t.Error("it hangs on another answer:", b, room)
		}
	}
}

// P1: what is nested 2^16 times is gone through.
func TestDeep(t *testing.T) {
	const levels = 1 << 16
	for _, code := range []int{opBlock, opNop} {
		l, other := nested(code, levels), nested(code, levels)
		depth := 0
		if code == opBlock {
			depth = levels
		}
		if n, d := tree.Count(l); n != levels+1 || d != depth {
			t.Error(n, d)
		}
		if tree.May(l) != (code == opBlock) || tree.Small(withBody(l)) {
			t.Error("deep:", code)
		}
		checkSame(t, true, withBody(l), withBody(other), "deep")
		checkSame(t, false, withBody(l), withBody(nested(code, levels-1)), "less deep")
	}
}
