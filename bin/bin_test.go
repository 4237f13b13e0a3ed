package bin_test

import (
	"bytes"
	"encoding/hex"
	"errors"
	"math"
	"reflect"
	"slices"
	"strconv"
	"strings"
	"testing"

	"grommet/api"
	"grommet/bin"
	"grommet/leb"
	"grommet/tree"
)

const (
	max32    = 1<<32 - 1
	headText = "00 61 73 6d 01 00 00 00"
)

// unhex reads bytes; spaces are for the eye.
func unhex(s string) []byte {
	b, err := hex.DecodeString(strings.ReplaceAll(s, " ", ""))
	if err != nil {
		panic(err)
	}
	return b
}

// hexOf writes them.
func hexOf(b ...byte) string { return hex.EncodeToString(b) }

// sized is bytes, and how many they are ahead of them.
func sized(b []byte) []byte { return append(leb.PutU(uint64(len(b))), b...) }

// build is the head and sections, each told as its Id (in tens), a colon, and its bytes: its size is counted here. A '!' stands ahead of the byte whose place is told, the length if there is none.
func build(sections ...string) ([]byte, int) {
	b, place := unhex(headText), -1
	for _, s := range sections {
		id, contents, _ := strings.Cut(s, ":")
		n, err := strconv.Atoi(id)
		if err != nil {
			panic(err)
		}
		ahead, behind, marked := strings.Cut(contents, "!")
		part := append(unhex(ahead), unhex(behind)...)
		b = append(b, byte(n))
		b = append(b, sized(part)...)
		if marked {
			place = len(b) - len(unhex(behind))
		}
	}
	if place < 0 {
		place = len(b)
	}
	return b, place
}

func whole(sections ...string) []byte {
	b, _ := build(sections...)
	return b
}

func code(l ...api.Ins) []api.Ins { return l }

func nops(n int) []api.Ins { return slices.Repeat(code(nop), n) }

var (
	nop  = api.Ins{Op: 0x01}
	zero = api.Ins{Op: 0x41}
)

func empty() api.Module { return api.Module{Start: -1} }

// with is a module of nothing but what the function puts in.
func with(put func(*api.Module)) api.Module {
	m := empty()
	put(&m)
	return m
}

func checkEncode(t *testing.T, m api.Module, want []byte) {
	t.Helper()
	if b, err := bin.Encode(m); err != nil || !bytes.Equal(b, want) {
		t.Errorf("Encode(%+v) = %x, %v; not %x", m, b, err, want)
	}
}

func checkRefused(t *testing.T, m api.Module, want api.Code) {
	t.Helper()
	if b, err := bin.Encode(m); err != error(want) || len(b) != 0 {
		t.Errorf("Encode(%+v) = %x, %v; not error %d", m, b, err, want)
	}
}

func checkDecode(t *testing.T, b []byte, want api.Module) {
	t.Helper()
	if m, err := bin.Decode(b); err != nil || !tree.Same(m, want) {
		t.Errorf("Decode(%.200x) = %+v, %v; not %+v", b, m, err, want)
	}
}

// checkFault holds that it is a Spot at that place, and that nothing else is told.
func checkFault(t *testing.T, b []byte, want api.Code, place int) {
	t.Helper()
	m, err := bin.Decode(b)
	s, ok := err.(*api.Spot)
	if !ok || s.Err != error(want) || s.At != place || !reflect.DeepEqual(m, api.Module{}) {
		t.Errorf("Decode(%.200x) = %+v, %v; not error %d at %d", b, m, err, want, place)
	}
}

// checkBuilt is of the place that is marked in the sections.
func checkBuilt(t *testing.T, want api.Code, sections ...string) {
	t.Helper()
	b, place := build(sections...)
	checkFault(t, b, want, place)
}

// good are modules, and the sections that they are written as.
var good = []struct {
	sections []string
	m        api.Module
}{
	{nil, empty()},
	{[]string{"1: 01 60 00 00"}, with(func(m *api.Module) { m.Types = []api.FuncType{{}} })},
	{[]string{"1: 03 60 02 7f 7e 01 7e 60 00 02 7f 7f 60 01 7e 00"}, with(func(m *api.Module) {
		m.Types = []api.FuncType{{Params: []int{api.I32, api.I64}, Results: []int{api.I64}}, {Results: []int{api.I32, api.I32}}, {Params: []int{api.I64}}}
	})},
	{[]string{"2: 06 01 6d 02 66 31 00 8001 00 00 01 70 00 05 03 e282ac 00 02 00 07 00 01 6d 02 01 02 03 01 41 00 03 7f 00 00 01 42 03 7e 01"}, with(func(m *api.Module) {
		m.Imports = []api.Import{{Module: "m", Name: "f1", Type: 128}, {Kind: api.KindTable, Limits: api.Limits{Min: 5}}, {Module: "€", Kind: api.KindMemory, Limits: api.Limits{Min: 7}},
			{Name: "m", Kind: api.KindMemory, Limits: api.Limits{Min: 2, Max: 3, Has: true}}, {Module: "A", Kind: api.KindGlobal, Type: api.I32}, {Name: "B", Kind: api.KindGlobal, Type: api.I64, Mut: true}}
	})},
	{[]string{"4: 02 70 00 8002 70 01 ffffffff0f 00"}, with(func(m *api.Module) { m.Tables = []api.Limits{{Min: 256}, {Min: max32, Has: true}} })},
	{[]string{"5: 02 01 01 02 00 00"}, with(func(m *api.Module) { m.Mems = []api.Limits{{Min: 1, Max: 2, Has: true}, {}} })},
	{[]string{"6: 03 7f 00 41 7f 0b 7e 01 42 c000 0b 7f 01 23 05 0b"}, with(func(m *api.Module) {
		m.Globals = []api.Global{{Type: api.I32, Init: api.Ins{Op: 0x41, V: max32}}, {Type: api.I64, Mut: true, Init: api.Ins{Op: 0x42, V: 64}}, {Type: api.I32, Mut: true, Init: api.Ins{Op: 0x23, A: 5}}}
	})},
	{[]string{"6: 01 7f 00 02 40 01 01 0b 0b"}, with(func(m *api.Module) {
		m.Globals = []api.Global{{Type: api.I32, Init: api.Ins{Op: 0x02, Body: nops(2)}}}
	})},
	{[]string{"7: 05 01 66 00 00 00 01 01 02 c3a9 02 ffffffff0f 01 67 03 7f 01 66 03 7f"}, with(func(m *api.Module) {
		m.Exports = []api.Export{{Name: "f"}, {Kind: api.KindTable, Index: 1}, {Name: "é", Kind: api.KindMemory, Index: max32}, {Name: "g", Kind: api.KindGlobal, Index: 127}, {Name: "f", Kind: api.KindGlobal, Index: 127}}
	})},
	{[]string{"8: 00"}, api.Module{}},
	{[]string{"8: ffffffff0f"}, api.Module{Start: max32}},
	{[]string{"9: 03 00 41 05 0b 02 07 8001 00 23 00 0b 00 00 01 0b 01 00"}, with(func(m *api.Module) {
		m.Elems = []api.Elem{{Offset: api.Ins{Op: 0x41, V: 5}, Funcs: []int{7, 128}}, {Offset: api.Ins{Op: 0x23}}, {Offset: nop, Funcs: []int{0}}}
	})},
	{[]string{"11: 02 00 41 c000 0b 03 00 ff 80 00 42 00 0b 00"}, with(func(m *api.Module) {
		m.Datas = []api.Data{{Offset: api.Ins{Op: 0x41, V: 64}, Bytes: []byte{0, 0xff, 0x80}}, {Offset: api.Ins{Op: 0x42}}}
	})},
	{[]string{"3: 03 00 05 ffffffff0f", "10: 03 02 00 0b 09 03 02 7f 01 7e 01 7f 01 0b 08 01 40 7e 41 00 1a 01 0b"}, with(func(m *api.Module) {
		m.Funcs = []api.Func{{}, {Type: 5, Locals: []int{api.I32, api.I32, api.I64, api.I32}, Body: nops(1)},
			{Type: max32, Locals: slices.Repeat([]int{api.I64}, 64), Body: code(zero, api.Ins{Op: 0x1a}, nop)}}
	})},
	{[]string{"0: 00", "0: 01 63", "0: 02 c3a9 ff 00", "0: 00 00"}, with(func(m *api.Module) {
		m.Customs = []api.Custom{{}, {Name: "c"}, {Name: "é", Bytes: []byte{0xff, 0}}, {Bytes: []byte{0}}}
	})},
	{fullSections, full()},
}

var fullSections = []string{"1: 02 60 01 7f 01 7e 60 00 00", "2: 04 01 6d 01 66 00 01 01 6d 01 74 01 70 01 01 02 01 6d 01 6d 02 00 03 01 6d 01 67 03 7e 01", "3: 02 01 00", "4: 01 70 00 04", "5: 01 01 05 06",
	"6: 01 7f 01 41 07 0b", "7: 01 01 65 00 02", "8: 01", "9: 01 00 41 08 0b 02 01 02", "10: 02 03 00 01 0b 06 02 01 7f 01 7e 0b", "11: 01 00 41 09 0b 02 78 79", "0: 01 63 7a"}

// full has something of all.
func full() api.Module {
	return api.Module{
		Types: []api.FuncType{{Params: []int{api.I32}, Results: []int{api.I64}}, {}},
		Imports: []api.Import{{Module: "m", Name: "f", Type: 1}, {Module: "m", Name: "t", Kind: api.KindTable, Limits: api.Limits{Min: 1, Max: 2, Has: true}},
			{Module: "m", Name: "m", Kind: api.KindMemory, Limits: api.Limits{Min: 3}}, {Module: "m", Name: "g", Kind: api.KindGlobal, Type: api.I64, Mut: true}},
		Funcs:   []api.Func{{Type: 1, Body: nops(1)}, {Locals: []int{api.I32, api.I64}}},
		Tables:  []api.Limits{{Min: 4}},
		Mems:    []api.Limits{{Min: 5, Max: 6, Has: true}},
		Globals: []api.Global{{Type: api.I32, Mut: true, Init: api.Ins{Op: 0x41, V: 7}}},
		Exports: []api.Export{{Name: "e", Index: 2}},
		Start:   1,
		Elems:   []api.Elem{{Offset: api.Ins{Op: 0x41, V: 8}, Funcs: []int{1, 2}}},
		Datas:   []api.Data{{Offset: api.Ins{Op: 0x41, V: 9}, Bytes: []byte("xy")}},
		Customs: []api.Custom{{Name: "c", Bytes: []byte("z")}},
	}
}

// P8.1, P8.2: what is written, and read, is as the chapter has it.
func TestGood(t *testing.T) {
	for _, g := range good {
		b := whole(g.sections...)
		checkEncode(t, g.m, b)
		checkDecode(t, b, g.m)
	}
}

// P8.1: empty lists are as good as none.
func TestEncodeEmpty(t *testing.T) {
	m := api.Module{Types: []api.FuncType{}, Imports: []api.Import{}, Funcs: []api.Func{}, Tables: []api.Limits{}, Mems: []api.Limits{}, Globals: []api.Global{},
		Exports: []api.Export{}, Start: -1, Elems: []api.Elem{}, Datas: []api.Data{}, Customs: []api.Custom{}}
	checkEncode(t, m, unhex(headText))
	m.Types = []api.FuncType{{Params: []int{}, Results: []int{}}}
	m.Funcs = []api.Func{{Locals: []int{}, Body: []api.Ins{}}}
	checkEncode(t, m, whole("1: 01 60 00 00", "3: 01 00", "10: 01 02 00 0b"))
}

// P8.1: locals side by side stand together, as many as can be.
func TestEncodeLocals(t *testing.T) {
	for _, x := range []struct{ locals, runs string }{
		{"", "00"}, {"1", "01 01 7f"}, {"2", "01 01 7e"}, {"11", "01 02 7f"}, {"12", "02 01 7f 01 7e"}, {"121", "03 01 7f 01 7e 01 7f"}, {"2221", "02 03 7e 01 7f"}, {"112211", "03 02 7f 02 7e 02 7f"},
		{strings.Repeat("1", 64), "01 40 7f"}, {strings.Repeat("2", 63) + "1", "02 3f 7e 01 7f"}, {strings.Repeat("12", 32), "40" + strings.Repeat("01 7f 01 7e", 32)},
	} {
		var l []int
		for _, c := range x.locals {
			l = append(l, int(c-'0'))
		}
		m := with(func(m *api.Module) { m.Funcs = []api.Func{{Locals: l}} })
		b := whole("3: 01 00", "10: 01"+hexOf(sized(unhex(x.runs+"0b"))...))
		checkEncode(t, m, b)
		checkDecode(t, b, m)
	}
}

// loose are other bytes that are read as a module, than those that it is written as.
var loose = []struct {
	sections []string
	m        api.Module
}{
	// lists of nothing
	{[]string{"1: 00", "2: 00", "3: 00", "4: 00", "5: 00", "6: 00", "7: 00", "9: 00", "10: 00", "11: 00"}, empty()},
	{[]string{"3: 00"}, empty()}, {[]string{"10: 80808000"}, empty()},
	// numbers in more bytes than they need
	{[]string{"1: 81808000 60 8000 818000 7f"}, with(func(m *api.Module) { m.Types = []api.FuncType{{Results: []int{api.I32}}} })},
	{[]string{"2: 8200 8100 6d 818000 66 00 8580808000 8000 8000 02 01 8100 ff808000"}, with(func(m *api.Module) {
		m.Imports = []api.Import{{Module: "m", Name: "f", Type: 5}, {Kind: api.KindMemory, Limits: api.Limits{Min: 1, Max: 127, Has: true}}}
	})},
	{[]string{"3: 8100 8400", "10: 8100 8900 8200 8000 7e 8200 7f 0b"}, with(func(m *api.Module) { m.Funcs = []api.Func{{Type: 4, Locals: []int{api.I32, api.I32}}} })},
	{[]string{"7: 8100 8100 66 00 8000"}, with(func(m *api.Module) { m.Exports = []api.Export{{Name: "f"}} })},
	{[]string{"8: 8180808000"}, api.Module{Start: 1}},
	{[]string{"9: 8100 8000 41 8000 0b 8100 8200"}, with(func(m *api.Module) { m.Elems = []api.Elem{{Offset: zero, Funcs: []int{2}}} })},
	{[]string{"11: 8100 8080808000 41 8000 0b 8100 55"}, with(func(m *api.Module) { m.Datas = []api.Data{{Offset: zero, Bytes: []byte{0x55}}} })},
	{[]string{"0: 8100 63 80"}, with(func(m *api.Module) { m.Customs = []api.Custom{{Name: "c", Bytes: []byte{0x80}}} })},
	// locals in more runs than they need, and in runs of none
	{[]string{"3: 01 00", "10: 01 0e 06 01 7f 01 7f 00 7e 01 7f 02 7e 00 7e 0b"}, with(func(m *api.Module) {
		m.Funcs = []api.Func{{Locals: []int{api.I32, api.I32, api.I32, api.I64, api.I64}}}
	})},
	{[]string{"3: 01 00", "10: 01" + hexOf(sized(unhex("e500"+strings.Repeat("00 7e", 36)+strings.Repeat("01 7f", 64)+"808000 7f 0b"))...)}, with(func(m *api.Module) {
		m.Funcs = []api.Func{{Locals: slices.Repeat([]int{api.I32}, 64)}}
	})},
	// customs that stand ahead
	{[]string{"0: 01 61", "1: 01 60 00 00", "0: 01 62", "0: 00 01", "8: 00", "0: 01 63"}, api.Module{Types: []api.FuncType{{}}, Customs: []api.Custom{{Name: "a"}, {Name: "b"}, {Bytes: []byte{1}}, {Name: "c"}}}},
}

// P8.2, P8.4: what is written otherwise is read, and, written again, is no longer.
func TestDecodeLoose(t *testing.T) {
	for _, x := range loose {
		b := whole(x.sections...)
		checkDecode(t, b, x.m)
		again, err := bin.Encode(x.m)
		if err != nil || len(again) > len(b) {
			t.Errorf("%x was written as %x, %v", b, again, err)
		}
		checkDecode(t, again, x.m)
	}
}

// P8.1: what isn't small is ErrLarge, ahead of what may not be.
func TestEncodeLarge(t *testing.T) {
	long := strings.Repeat("n", 64)
	for i, at := range []func(*api.Module, int){
		func(m *api.Module, n int) { m.Types = make([]api.FuncType, 64+n) },
		func(m *api.Module, n int) { m.Types = []api.FuncType{{Params: slices.Repeat([]int{api.I32}, 64+n)}} },
		func(m *api.Module, n int) { m.Types = []api.FuncType{{Results: slices.Repeat([]int{api.I32}, 64+n)}} },
		func(m *api.Module, n int) { m.Imports = make([]api.Import, 64+n) },
		func(m *api.Module, n int) { m.Imports = []api.Import{{Module: long + long[:n]}} },
		func(m *api.Module, n int) { m.Imports = []api.Import{{Name: long + long[:n]}} },
		func(m *api.Module, n int) { m.Funcs = make([]api.Func, 64+n) },
		func(m *api.Module, n int) { m.Funcs = []api.Func{{Locals: slices.Repeat([]int{api.I64}, 64+n)}} },
		func(m *api.Module, n int) { m.Funcs = []api.Func{{Body: nops(512 + n)}} },
		func(m *api.Module, n int) {
			m.Funcs = []api.Func{{Body: code(api.Ins{Op: 0x0e, L: make([]int, 64+n)})}}
		},
		func(m *api.Module, n int) { m.Tables = make([]api.Limits, 64+n) },
		func(m *api.Module, n int) { m.Mems = make([]api.Limits, 64+n) },
		func(m *api.Module, n int) { m.Globals = slices.Repeat([]api.Global{{Type: api.I32}}, 64+n) },
		func(m *api.Module, n int) {
			m.Globals = []api.Global{{Type: api.I32, Init: api.Ins{Op: 0x02, Body: nops(511 + n)}}}
		},
		func(m *api.Module, n int) { m.Exports = make([]api.Export, 64+n) },
		func(m *api.Module, n int) { m.Exports = []api.Export{{Name: long + long[:n]}} },
		func(m *api.Module, n int) { m.Elems = make([]api.Elem, 64+n) },
		func(m *api.Module, n int) { m.Elems = []api.Elem{{Funcs: make([]int, 64+n)}} },
		func(m *api.Module, n int) { m.Datas = make([]api.Data, 64+n) },
		func(m *api.Module, n int) { m.Datas = []api.Data{{Bytes: make([]byte, 4096+n)}} },
		func(m *api.Module, n int) { m.Customs = make([]api.Custom, 64+n) },
		func(m *api.Module, n int) { m.Customs = []api.Custom{{Name: long + long[:n]}} },
		func(m *api.Module, n int) { m.Customs = []api.Custom{{Bytes: make([]byte, 4096+n)}} },
	} {
		// P8.4: at the limit it is decoded as it was.
		fits := with(func(m *api.Module) { at(m, 0) })
		b, err := bin.Encode(fits)
		if err != nil {
			t.Error(i, err)
		}
		checkDecode(t, b, fits)
		above := with(func(m *api.Module) { at(m, 1) })
		checkRefused(t, above, api.ErrLarge)
		above.Start = -2
		checkRefused(t, above, api.ErrLarge)
		fits.Start = -2
		checkRefused(t, fits, api.ErrArg)
	}
}

// numbers are those of a full module.
func numbers(m *api.Module) []*int {
	return []*int{&m.Imports[0].Type, &m.Imports[1].Limits.Min, &m.Imports[1].Limits.Max, &m.Imports[2].Limits.Min, &m.Funcs[0].Type, &m.Funcs[1].Type, &m.Tables[0].Min,
		&m.Mems[0].Min, &m.Mems[0].Max, &m.Exports[0].Index, &m.Start, &m.Elems[0].Funcs[0], &m.Elems[0].Funcs[1]}
}

// P8.1: numbers are 0 to 2^32 - 1; Start may be -1, too.
func TestEncodeNumbers(t *testing.T) {
	base := full()
	for i := range numbers(&base) {
		for _, n := range []int{-1, -2, -max32, 1 << 32, 1<<32 + 1, 1 << 40, math.MinInt, math.MaxInt} {
			m := full()
			*numbers(&m)[i] = n
			if n == -1 && m.Start == -1 {
				continue
			}
			checkRefused(t, m, api.ErrArg)
		}
		for _, n := range []int{0, 1, 127, 128, 1<<14 - 1, 1 << 14, 1 << 31, max32} {
			m := full()
			*numbers(&m)[i] = n
			b, err := bin.Encode(m)
			if err != nil {
				t.Error(i, n, err)
			}
			checkDecode(t, b, m)
		}
	}
}

// typesOf are a full module's types.
func typesOf(m *api.Module) []*int {
	return []*int{&m.Types[0].Params[0], &m.Types[0].Results[0], &m.Imports[3].Type, &m.Funcs[1].Locals[0], &m.Funcs[1].Locals[1], &m.Globals[0].Type}
}

// P8.1: types are I32 and I64.
func TestEncodeTypes(t *testing.T) {
	base := full()
	for i := range typesOf(&base) {
		for _, n := range []int{api.None, 3, -1, 0x7f, 0x7e, 0x7d, 0x40, 1<<32 + 1, math.MinInt, math.MaxInt} {
			m := full()
			*typesOf(&m)[i] = n
			checkRefused(t, m, api.ErrArg)
		}
		for _, n := range []int{api.I32, api.I64} {
			m := full()
			*typesOf(&m)[i] = n
			b, err := bin.Encode(m)
			if err != nil {
				t.Error(i, n, err)
			}
			checkDecode(t, b, m)
		}
	}
}

// P8.1: names are texts.
func TestEncodeNames(t *testing.T) {
	names := func(m *api.Module) []*string {
		return []*string{&m.Imports[0].Module, &m.Imports[1].Name, &m.Imports[3].Module, &m.Exports[0].Name, &m.Customs[0].Name}
	}
	base := full()
	for i := range names(&base) {
		for _, s := range []string{"\xff", "a\x80", "\xc0\x80", "e\xe2\x82", "\xed\xa0\x80", "\xf4\x90\x80\x80", "\xc3"} {
			m := full()
			*names(&m)[i] = s
			checkRefused(t, m, api.ErrArg)
		}
		for _, s := range []string{"", "\x00", "é", "\U0010ffff", "\ufffd", strings.Repeat("€", 21) + "x"} {
			m := full()
			*names(&m)[i] = s
			b, err := bin.Encode(m)
			if err != nil {
				t.Error(i, s, err)
			}
			checkDecode(t, b, m)
		}
	}
}

// P8.1: Kinds are 0 to 3.
func TestEncodeKinds(t *testing.T) {
	for _, k := range []int{-1, 4, 5, 0x70, 0x80, 256, 257, 1 << 32, math.MinInt, math.MaxInt} {
		checkRefused(t, with(func(m *api.Module) { m.Exports = []api.Export{{Kind: k}} }), api.ErrArg)
		checkRefused(t, with(func(m *api.Module) { m.Imports = []api.Import{{Kind: k}} }), api.ErrArg)
		checkRefused(t, with(func(m *api.Module) { m.Imports = []api.Import{{Kind: k, Type: 1}} }), api.ErrArg)
	}
	for k := range 4 {
		checkEncode(t, with(func(m *api.Module) { m.Exports = []api.Export{{Kind: k}} }), whole("7: 01 00 0"+strconv.Itoa(k)+"00"))
	}
}

// P8.1: expressions may be (layer 5).
func TestEncodeExpressions(t *testing.T) {
	inBlock := func(x api.Ins) api.Ins { return api.Ins{Op: 0x02, Body: code(nop, x)} }
	for _, x := range []api.Ins{{Op: 0x43}, {Op: 0x05}, {Op: 0x0b}, {Op: -1}, {Op: 0x101}, {Op: 0x41, V: 1 << 32}, {Op: 0x01, A: 1}, {Op: 0x0e}, {Op: 0x10, A: -1}, {Op: 0x10, A: 1 << 32},
		{Op: 0x02, HasElse: true}, {Op: 0x02, T: 3}, {Op: 0x04, Else: nops(1)}, {Op: 0x28, B: -1}} {
		for _, bad := range []api.Ins{x, inBlock(x)} {
			for _, put := range []func(*api.Module){
				func(m *api.Module) { m.Globals[0].Init = bad },
				func(m *api.Module) { m.Elems[0].Offset = bad },
				func(m *api.Module) { m.Datas[0].Offset = bad },
				func(m *api.Module) { m.Funcs[0].Body = code(bad) },
				func(m *api.Module) { m.Funcs[1].Body = code(nop, bad, nop) },
			} {
				m := full()
				put(&m)
				checkRefused(t, m, api.ErrArg)
			}
		}
	}
}

// P8.1: an import has nothing in the fields that don't count of its kind.
func TestEncodeImports(t *testing.T) {
	fields := []struct {
		name string
		set  func(*api.Import)
	}{
		{"Type", func(x *api.Import) { x.Type = 1 }}, {"Mut", func(x *api.Import) { x.Mut = true }}, {"Min", func(x *api.Import) { x.Limits.Min = 1 }},
		{"Has", func(x *api.Import) { x.Limits.Has = true }}, {"Max", func(x *api.Import) { x.Limits = api.Limits{Max: 1, Has: true} }},
	}
	limits := []string{"Min", "Has", "Max"}
	for kind, counting := range map[int][]string{api.KindFunc: {"Type"}, api.KindTable: limits, api.KindMemory: limits, api.KindGlobal: {"Type", "Mut"}} {
		for _, f := range fields {
			x := api.Import{Module: "a", Name: "b", Kind: kind}
			if kind == api.KindGlobal {
				x.Type = api.I64
			}
			f.set(&x)
			m := with(func(m *api.Module) { m.Imports = []api.Import{{}, x} })
			if !slices.Contains(counting, f.name) {
				checkRefused(t, m, api.ErrArg)
				continue
			}
			b, err := bin.Encode(m)
			if err != nil {
				t.Error(kind, f.name, err)
			}
			checkDecode(t, b, m)
		}
	}
}

// P8.1: Limits without a Max have none that isn't 0.
func TestEncodeLimits(t *testing.T) {
	for _, n := range []int{1, -1, 1 << 32, max32, math.MinInt} {
		l := api.Limits{Min: 1, Max: n}
		checkRefused(t, with(func(m *api.Module) { m.Tables = []api.Limits{l} }), api.ErrArg)
		checkRefused(t, with(func(m *api.Module) { m.Mems = []api.Limits{{}, l} }), api.ErrArg)
		checkRefused(t, with(func(m *api.Module) { m.Imports = []api.Import{{Kind: api.KindTable, Limits: l}} }), api.ErrArg)
		checkRefused(t, with(func(m *api.Module) { m.Imports = []api.Import{{Kind: api.KindMemory, Limits: l}} }), api.ErrArg)
	}
	// Whether Max is below Min is for others to say.
	checkEncode(t, with(func(m *api.Module) { m.Mems = []api.Limits{{Min: 9, Max: 1, Has: true}} }), whole("5: 01 01 09 01"))
}

func spotOf(t *testing.T, err error) *api.Spot {
	t.Helper()
	var s *api.Spot
	if !errors.As(err, &s) {
		t.Fatal(err)
	}
	return s
}
