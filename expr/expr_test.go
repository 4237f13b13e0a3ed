package expr_test

import (
	"bytes"
	"encoding/hex"
	"errors"
	"math"
	"math/rand"
	"reflect"
	"slices"
	"strings"
	"testing"

	"grommet/api"
	"grommet/expr"
	"grommet/tree"
)

const max32 = 1<<32 - 1

// forms tells what stands behind each operation's byte, as the chapter has it: t a block's byte and what it has, a and b numbers, l labels, 0 that byte, v and w constants of 32 and 64 bits.
var forms = map[string]string{
	"00 01 0f 1a 1b":          "",
	"02 03 04":                "t",
	"0c 0d 10 20 21 22 23 24": "a",
	"0e":                      "l",
	"11":                      "a0",
	"28 29 2c 2d 2e 2f 30 31 32 33 34 35 36 37 3a 3b 3c 3d 3e": "ab",
	"3f 40": "0",
	"41":    "v",
	"42":    "w",
	"45 46 47 48 49 4a 4b 4c 4d 4e 4f 50 51 52 53 54 55 56 57 58 59 5a": "",
	"67 68 69 6a 6b 6c 6d 6e 6f 70 71 72 73 74 75 76 77 78":             "",
	"79 7a 7b 7c 7d 7e 7f 80 81 82 83 84 85 86 87 88 89 8a":             "",
	"a7 ac ad": "",
}

var formOf = func() map[int]string {
	m := map[int]string{}
	for codes, f := range forms {
		for _, c := range unhex(codes) {
			m[int(c)] = f
		}
	}
	return m
}()

// form is what stands behind a byte, and whether it is an operation's.
func form(c int) (string, bool) {
	f, ok := formOf[c]
	return f, ok
}

func isFloat(c int) bool {
	for _, r := range [][2]int{{0x2a, 0x2b}, {0x38, 0x39}, {0x43, 0x44}, {0x5b, 0x66}, {0x8b, 0xa6}, {0xa8, 0xab}, {0xae, 0xbf}} {
		if c >= r[0] && c <= r[1] {
			return true
		}
	}
	return false
}

// unhex reads bytes; spaces are for the eye.
func unhex(s string) []byte {
	b, err := hex.DecodeString(strings.ReplaceAll(s, " ", ""))
	if err != nil {
		panic(err)
	}
	return b
}

func code(l ...api.Ins) []api.Ins { return l }

func nops(n int) []api.Ins { return slices.Repeat(code(api.Ins{Op: 0x01}), n) }

// same takes nil and empty lists for the same, as the document does.
func same(a, b []api.Ins) bool {
	return tree.Same(api.Module{Funcs: []api.Func{{Body: a}}}, api.Module{Funcs: []api.Func{{Body: b}}})
}

// good are expressions, and their bytes: a word is an operation's byte, a number, or another byte, so that a word's place is that of a fault in it.
var good = []struct {
	bytes string
	l     []api.Ins
}{
	{"0b", nil},
	{"00 01 0f 1a 1b 0b", code(api.Ins{Op: 0x00}, api.Ins{Op: 0x01}, api.Ins{Op: 0x0f}, api.Ins{Op: 0x1a}, api.Ins{Op: 0x1b})},
	{"02 40 0b 0b", code(api.Ins{Op: 0x02})},
	{"03 7f 0b 02 7e 0b 0b", code(api.Ins{Op: 0x03, T: api.I32}, api.Ins{Op: 0x02, T: api.I64})},
	{"03 7e 0b 02 7f 0b 0b", code(api.Ins{Op: 0x03, T: api.I64}, api.Ins{Op: 0x02, T: api.I32})},
	{"04 40 0b 0b", code(api.Ins{Op: 0x04})},
	{"04 40 05 0b 0b", code(api.Ins{Op: 0x04, HasElse: true})},
	{"04 7f 01 0b 01 0b", code(api.Ins{Op: 0x04, T: api.I32, Body: nops(1)}, api.Ins{Op: 0x01})},
	{"04 7e 01 05 0b 0b", code(api.Ins{Op: 0x04, T: api.I64, Body: nops(1), HasElse: true})},
	{"04 40 05 01 01 0b 0b", code(api.Ins{Op: 0x04, HasElse: true, Else: nops(2)})},
	{"04 40 01 05 00 1a 0b 1b 0b", code(api.Ins{Op: 0x04, Body: nops(1), HasElse: true, Else: code(api.Ins{Op: 0x00}, api.Ins{Op: 0x1a})}, api.Ins{Op: 0x1b})},
	{"04 40 04 40 05 0b 0b 0b", code(api.Ins{Op: 0x04, Body: code(api.Ins{Op: 0x04, HasElse: true})})},
	{"04 40 04 40 0b 05 04 40 05 0b 0b 0b", code(api.Ins{Op: 0x04, Body: code(api.Ins{Op: 0x04}), HasElse: true, Else: code(api.Ins{Op: 0x04, HasElse: true})})},
	{"02 40 03 7f 04 7e 01 0b 0b 0b 01 0b", code(api.Ins{Op: 0x02, Body: code(api.Ins{Op: 0x03, T: api.I32, Body: code(api.Ins{Op: 0x04, T: api.I64, Body: nops(1)})})}, api.Ins{Op: 0x01})},
	{"04 40 02 40 0b 05 03 40 0b 0b 0b", code(api.Ins{Op: 0x04, Body: code(api.Ins{Op: 0x02}), HasElse: true, Else: code(api.Ins{Op: 0x03})})},
	{"0c 00 0d 7f 10 8001 0b", code(api.Ins{Op: 0x0c}, api.Ins{Op: 0x0d, A: 127}, api.Ins{Op: 0x10, A: 128})},
	{"20 ff7f 21 808001 22 ffffffff0f 23 05 24 0b 0b", code(api.Ins{Op: 0x20, A: 16383}, api.Ins{Op: 0x21, A: 16384}, api.Ins{Op: 0x22, A: max32}, api.Ins{Op: 0x23, A: 5}, api.Ins{Op: 0x24, A: 11})},
	{"0e 00 07 0b", code(api.Ins{Op: 0x0e, L: []int{7}})},
	{"0e 02 03 ac02 ffffffff0f 0e 01 0b 05 0b", code(api.Ins{Op: 0x0e, L: []int{3, 300, max32}}, api.Ins{Op: 0x0e, L: []int{11, 5}})},
	{"11 00 00 11 8080808008 00 0b", code(api.Ins{Op: 0x11}, api.Ins{Op: 0x11, A: 1 << 31})},
	{"28 00 00 29 03 8002 2c 9801 00 2d 01 05 0b", code(api.Ins{Op: 0x28}, api.Ins{Op: 0x29, A: 3, B: 256}, api.Ins{Op: 0x2c, A: 152}, api.Ins{Op: 0x2d, A: 1, B: 5})},
	{"36 0b 05 37 ffffffff0f ffffffff0f 3e 02 8080808008 0b", code(api.Ins{Op: 0x36, A: 11, B: 5}, api.Ins{Op: 0x37, A: max32, B: max32}, api.Ins{Op: 0x3e, A: 2, B: 1 << 31})},
	{"3f 00 40 00 0b", code(api.Ins{Op: 0x3f}, api.Ins{Op: 0x40})},
	{"41 00 41 7f 41 3f 41 c000 41 40 41 bf7f 0b", code(api.Ins{Op: 0x41}, api.Ins{Op: 0x41, V: max32}, api.Ins{Op: 0x41, V: 63}, api.Ins{Op: 0x41, V: 64}, api.Ins{Op: 0x41, V: max32 - 63}, api.Ins{Op: 0x41, V: max32 - 64})},
	{"41 ffffffff07 41 8080808078 41 8180808078 0b", code(api.Ins{Op: 0x41, V: 1<<31 - 1}, api.Ins{Op: 0x41, V: 1 << 31}, api.Ins{Op: 0x41, V: 1<<31 + 1})},
	{"42 00 42 7f 42 3f 42 c000 42 40 42 bf7f 0b", code(api.Ins{Op: 0x42}, api.Ins{Op: 0x42, V: math.MaxUint64}, api.Ins{Op: 0x42, V: 63}, api.Ins{Op: 0x42, V: 64}, api.Ins{Op: 0x42, V: math.MaxUint64 - 63}, api.Ins{Op: 0x42, V: math.MaxUint64 - 64})},
	{"42 ffffffff07 42 8080808008 42 ffffffff0f 42 8080808010 42 8080808078 0b", code(api.Ins{Op: 0x42, V: 1<<31 - 1}, api.Ins{Op: 0x42, V: 1 << 31}, api.Ins{Op: 0x42, V: max32}, api.Ins{Op: 0x42, V: 1 << 32}, api.Ins{Op: 0x42, V: math.MaxUint64 - 1<<31 + 1})},
	{"42 ffffffffffffffffff00 42 8080808080808080807f 0b", code(api.Ins{Op: 0x42, V: math.MaxInt64}, api.Ins{Op: 0x42, V: 1 << 63})},
	{"41 0b 41 05 20 05 20 0b 45 50 67 79 6a 7c 8a a7 ac ad 0b", code(api.Ins{Op: 0x41, V: 11}, api.Ins{Op: 0x41, V: 5}, api.Ins{Op: 0x20, A: 5}, api.Ins{Op: 0x20, A: 11},
		api.Ins{Op: 0x45}, api.Ins{Op: 0x50}, api.Ins{Op: 0x67}, api.Ins{Op: 0x79}, api.Ins{Op: 0x6a}, api.Ins{Op: 0x7c}, api.Ins{Op: 0x8a}, api.Ins{Op: 0xa7}, api.Ins{Op: 0xac}, api.Ins{Op: 0xad})},
}

func checkPut(t *testing.T, l []api.Ins, want []byte) {
	t.Helper()
	if got, err := expr.Put(l); err != nil || !bytes.Equal(got, want) {
		t.Errorf("Put(%+v) = %x, %v; not %x", l, got, err, want)
	}
}

func checkGet(t *testing.T, b []byte, at int, want []api.Ins, next int) {
	t.Helper()
	l, n, err := expr.Get(b, at)
	if err != nil || n != next || !same(l, want) {
		t.Errorf("Get(%x, %d) = %+v, %d, %v; not %+v, %d", b, at, l, n, err, want, next)
	}
}

// checkFault holds that it is a Spot at that place, and that nothing else is told.
func checkFault(t *testing.T, b []byte, at int, want api.Code, place int) {
	t.Helper()
	l, n, err := expr.Get(b, at)
	s, ok := err.(*api.Spot)
	if !ok || s.Err != error(want) || s.At != place || len(l) != 0 || n != 0 {
		t.Errorf("Get(%x, %d) = %+v, %d, %v; not error %d at %d", b, at, l, n, err, want, place)
	}
}

// P6.1, P6.2: what is written, and read, is as the chapter has it.
func TestGood(t *testing.T) {
	for _, g := range good {
		b := unhex(g.bytes)
		checkPut(t, g.l, b)
		checkGet(t, b, 0, g.l, len(b))
		// What stands ahead and behind isn't looked at.
		for _, ahead := range []string{"0b", "05", "43", "024002", "ff"} {
			for _, behind := range []string{"", "0b", "05", "43", "ff", "02"} {
				head := unhex(ahead)
				checkGet(t, slices.Concat(head, b, unhex(behind)), len(head), g.l, len(head)+len(b))
			}
		}
	}
}

// sample is an instruction of that byte, all of whose fields that count are there, and its bytes.
func sample(c int, f string) (api.Ins, []byte) {
	x, b := api.Ins{Op: c}, []byte{byte(c)}
	switch f {
	case "t":
		x.T, x.Body = api.I64, nops(1)
		return x, append(b, 0x7e, 0x01, 0x0b)
	case "a":
		x.A = 200
		return x, append(b, 0xc8, 0x01)
	case "a0":
		x.A = 200
		return x, append(b, 0xc8, 0x01, 0x00)
	case "ab":
		x.A, x.B = 200, 3
		return x, append(b, 0xc8, 0x01, 0x03)
	case "l":
		x.L = []int{200, 3, 5}
		return x, append(b, 0x02, 0xc8, 0x01, 0x03, 0x05)
	case "0":
		return x, append(b, 0x00)
	case "v":
		x.V = max32 - 99
		return x, append(b, 0x9c, 0x7f)
	case "w":
		x.V = math.MaxUint64 - 99
		return x, append(b, 0x9c, 0x7f)
	}
	return x, b
}

// P6.1, P6.2: of each byte there is an operation with what stands behind it, or a fault at its place.
func TestEveryOperation(t *testing.T) {
	there := 0
	for c := range 0x100 {
		f, ok := form(c)
		if !ok {
			if _, err := expr.Put(code(api.Ins{Op: c})); err != error(api.ErrArg) {
				t.Errorf("Put of %x: %v", c, err)
			}
		}
		switch {
		case ok:
			there++
			x, b := sample(c, f)
			whole := append(slices.Clone(b), 0x0b)
			checkPut(t, code(x), whole)
			checkGet(t, whole, 0, code(x), len(whole))
			two := slices.Concat([]byte{0x01}, b, b, []byte{0x0b})
			checkPut(t, code(api.Ins{Op: 0x01}, x, x), two)
			checkGet(t, two, 0, code(api.Ins{Op: 0x01}, x, x), len(two))
		case isFloat(c):
			checkFault(t, []byte{byte(c)}, 0, api.ErrFloat, 0)
			checkFault(t, []byte{0x01, 0x02, 0x40, byte(c), 0x00, 0x0b, 0x0b}, 1, api.ErrFloat, 3)
		case c == 0x0b:
			checkGet(t, []byte{0x0b}, 0, nil, 1)
		default:
			checkFault(t, []byte{byte(c)}, 0, api.ErrForm, 0)
			checkFault(t, []byte{0x01, 0x02, 0x40, byte(c), 0x00, 0x0b, 0x0b}, 1, api.ErrForm, 3)
		}
	}
	if there != 102 {
		t.Error("operations:", there)
	}
}

// P6.1: what isn't an expression is refused, wherever it stands.
func TestPutRefused(t *testing.T) {
	for _, x := range []api.Ins{
		{Op: 0x05}, {Op: 0x0b}, {Op: 0x06}, {Op: 0xff}, {Op: -1}, {Op: 0x101}, {Op: 1 << 32}, {Op: math.MinInt}, {Op: math.MaxInt},
		{Op: 0x43}, {Op: 0x2a}, {Op: 0xbf},
		{Op: 0x01, A: 1}, {Op: 0x01, B: 1}, {Op: 0x01, V: 1}, {Op: 0x01, T: 1}, {Op: 0x01, L: []int{0}}, {Op: 0x01, Body: nops(1)}, {Op: 0x01, Else: nops(1)}, {Op: 0x01, HasElse: true},
		{Op: 0x0c, A: -1}, {Op: 0x0c, A: max32 + 1}, {Op: 0x0c, B: 1}, {Op: 0x0f, A: 1}, {Op: 0x11, B: 1}, {Op: 0x11, A: 1 << 32}, {Op: 0x20, A: math.MinInt},
		{Op: 0x28, B: -1}, {Op: 0x28, B: max32 + 1}, {Op: 0x36, A: max32 + 1}, {Op: 0x3f, A: 1}, {Op: 0x40, B: 1},
		{Op: 0x0e}, {Op: 0x0e, L: []int{}}, {Op: 0x0e, L: []int{0, -1}}, {Op: 0x0e, L: []int{max32 + 1, 0}}, {Op: 0x0e, L: []int{0}, A: 1},
		{Op: 0x41, V: 1 << 32}, {Op: 0x41, V: math.MaxUint64}, {Op: 0x41, A: 1}, {Op: 0x42, A: 1},
		{Op: 0x02, T: 3}, {Op: 0x02, T: -1}, {Op: 0x02, T: 0x7f}, {Op: 0x02, HasElse: true}, {Op: 0x03, Else: nops(1)}, {Op: 0x04, Else: nops(1)}, {Op: 0x04, A: 1},
	} {
		for _, l := range [][]api.Ins{
			{x}, {{Op: 0x01}, x}, {x, {Op: 0x01}},
			{{Op: 0x02, Body: code(x)}}, {{Op: 0x04, HasElse: true, Else: code(x)}}, {{Op: 0x04, Body: code(api.Ins{Op: 0x03, Body: code(x)}), HasElse: true}},
		} {
			if b, err := expr.Put(l); err != error(api.ErrArg) || len(b) != 0 {
				t.Errorf("Put(%+v) = %x, %v", l, b, err)
			}
		}
	}
}

// P6.1: how great it is isn't looked at.
func TestPutGreat(t *testing.T) {
	checkPut(t, nops(5000), append(bytes.Repeat([]byte{0x01}, 5000), 0x0b))
	want := append(unhex("0e e707"), make([]byte, 1000)...)
	checkPut(t, code(api.Ins{Op: 0x0e, L: make([]int, 1000)}), append(want, 0x0b))
	const levels = 1 << 16
	var l []api.Ins
	for range levels {
		l = code(api.Ins{Op: 0x03, Body: l})
	}
	checkPut(t, l, append(bytes.Repeat([]byte{0x03, 0x40}, levels), bytes.Repeat([]byte{0x0b}, levels+1)...))
}

// P6.2: a place that there isn't is refused, the length itself isn't.
func TestGetPlace(t *testing.T) {
	for _, b := range [][]byte{nil, {}, {0x0b}, {0x01, 0x0b}, {0x43, 0x43, 0x43}} {
		for _, at := range []int{-1, -2, len(b) + 1, len(b) + 2, math.MinInt, math.MaxInt, 1 << 32, -1 << 32} {
			if l, n, err := expr.Get(b, at); err != error(api.ErrArg) || len(l) != 0 || n != 0 {
				t.Errorf("Get(%x, %d) = %+v, %d, %v", b, at, l, n, err)
			}
		}
		checkFault(t, b, len(b), api.ErrForm, len(b))
	}
	checkGet(t, []byte{0x01, 0x0b}, 1, nil, 2)
}

// P6.2: where bytes end, the fault stands at what has begun, or, ahead of it, at the end.
func TestGetCut(t *testing.T) {
	for _, g := range good {
		b, at := unhex(g.bytes), 0
		for _, word := range strings.Fields(g.bytes) {
			for i := range len(word) / 2 {
				// The whole lies behind the end still, where it isn't to be read.
				checkFault(t, b[:at+i], 0, api.ErrForm, at)
				checkFault(t, append([]byte{0x0b}, b[:at+i]...), 1, api.ErrForm, at+1)
			}
			at += len(word) / 2
		}
	}
}

// P6.2: numbers may have more bytes than they need.
func TestGetLonger(t *testing.T) {
	for _, g := range []struct {
		bytes string
		x     api.Ins
	}{
		{"0c 8000", api.Ins{Op: 0x0c}},
		{"10 8580808000", api.Ins{Op: 0x10, A: 5}},
		{"20 ff80808000", api.Ins{Op: 0x20, A: 127}},
		{"11 838000 00", api.Ins{Op: 0x11, A: 3}},
		{"28 8200 ac828000", api.Ins{Op: 0x28, A: 2, B: 300}},
		{"3e 8280808000 8380808000", api.Ins{Op: 0x3e, A: 2, B: 3}},
		{"0e 8180808000 8200 8380808000", api.Ins{Op: 0x0e, L: []int{2, 3}}},
		{"0e bf8000" + strings.Repeat("8100", 64), api.Ins{Op: 0x0e, L: slices.Repeat([]int{1}, 64)}},
		{"41 8000", api.Ins{Op: 0x41}},
		{"41 ffffffff7f", api.Ins{Op: 0x41, V: max32}},
		{"41 c0ffffff7f", api.Ins{Op: 0x41, V: max32 - 63}},
		{"41 8580808000", api.Ins{Op: 0x41, V: 5}},
		{"42 ff7f", api.Ins{Op: 0x42, V: math.MaxUint64}},
		{"42 ffffffffffffffffff7f", api.Ins{Op: 0x42, V: math.MaxUint64}},
		{"42 85808080808080808000", api.Ins{Op: 0x42, V: 5}},
	} {
		b := append(unhex(g.bytes), 0x0b)
		checkGet(t, b, 0, code(g.x), len(b))
		again, err := expr.Put(code(g.x))
		if err != nil || len(again) >= len(b) {
			t.Errorf("%x was put as %x, %v", b, again, err)
		}
	}
}

// P6.2: ErrForm stands at the number, or byte, that isn't as the chapter has it.
func TestGetForm(t *testing.T) {
	for _, f := range []struct {
		bytes string
		place int
	}{
		// numbers that are too long, or have bits that are too many
		{"0c ffffffff1f 0b", 1}, {"0c 808080808000 0b", 1}, {"10 ffffffff7f 0b", 1}, {"24 8080808010 0b", 1}, {"01 20 ffffffffff0f 0b", 2},
		{"11 8080808010 00 0b", 1}, {"28 8080808010 00 0b", 1}, {"28 00 8080808010 0b", 2}, {"37 8000 ffffffff1f 0b", 3},
		{"0e 8080808010 00 0b", 1}, {"0e 02 00 8080808010 00 0b", 3}, {"0e 01 00 ffffffff7f 0b", 3}, {"0e 808080808000 00 0b", 1},
		{"41 ffffffff0f 0b", 1}, {"41 8080808008 0b", 1}, {"41 ffffffff77 0b", 1}, {"41 808080808000 0b", 1}, {"41 8080808070 0b", 1}, {"41 ffffffff3f 0b", 1},
		{"42 80808080808080808001 0b", 1}, {"42 ffffffffffffffffff7e 0b", 1}, {"42 8080808080808080808000 0b", 1}, {"42 8080808080808080803f 0b", 1},
		// other bytes than 00
		{"11 00 01 0b", 2}, {"11 8001 80 00 0b", 3}, {"11 00 0b 0b", 2}, {"3f 01 0b", 1}, {"40 0b", 1}, {"3f 80 00 0b", 1}, {"40 80 00 0b", 1}, {"02 40 40 ff", 3},
		// an else that may not be
		{"05 0b", 0}, {"01 05 0b", 1}, {"02 40 05 0b 0b", 2}, {"03 7f 01 05 0b 0b", 3}, {"04 40 05 05 0b 0b", 3}, {"04 40 05 01 05 0b 0b", 4},
		{"04 40 0b 05 0b", 3}, {"04 40 02 40 05 0b 0b 0b", 4}, {"04 40 05 0b 05 0b", 4}, {"04 40 05 04 40 05 05 0b 0b 0b", 6}, {"04 40 05 02 40 05 0b 0b 0b", 5}, {"04 40 04 40 05 0b 05 05", 7},
		// the first one of several
		{"06 43 0b", 0}, {"02 41 43 0b", 1}, {"41 ffffffff0f 43 0b", 1}, {"20 80", 1}, {"28 02 80", 2}, {"42 ff", 1}, {"0e 3f 80", 2}, {"0e 02 80 80 80", 2},
	} {
		b := unhex(f.bytes)
		checkFault(t, b, 0, api.ErrForm, f.place)
		checkFault(t, append([]byte{0x43, 0x0b}, b...), 2, api.ErrForm, f.place+2)
		inBlock := append([]byte{0x01, 0x03, 0x40}, b...)
		checkFault(t, inBlock, 0, api.ErrForm, f.place+3)
	}
}

// P6.2: a block's byte tells its result, or is a fault at its place, a float's or another.
func TestGetResult(t *testing.T) {
	results := map[int]int{0x40: api.None, 0x7f: api.I32, 0x7e: api.I64}
	for c := range 0x100 {
		for _, block := range []byte{0x02, 0x03, 0x04} {
			b := []byte{0x01, block, byte(c), 0x01, 0x0b, 0x0b}
			r, ok := results[c]
			switch {
			case ok:
				checkGet(t, b, 0, code(api.Ins{Op: 0x01}, api.Ins{Op: int(block), T: r, Body: nops(1)}), len(b))
			case c == 0x7c || c == 0x7d:
				checkFault(t, b, 0, api.ErrFloat, 2)
				checkFault(t, b[:3], 1, api.ErrFloat, 2)
			default:
				checkFault(t, b, 0, api.ErrForm, 2)
				checkFault(t, b[:3], 1, api.ErrForm, 2)
			}
		}
	}
	// The same bytes as an operation's are no float's.
	checkGet(t, unhex("7c 7d 7e 7f 0b"), 0, code(api.Ins{Op: 0x7c}, api.Ins{Op: 0x7d}, api.Ins{Op: 0x7e}, api.Ins{Op: 0x7f}), 5)
	// Of several the first one.
	checkFault(t, unhex("43 06"), 0, api.ErrFloat, 0)
	checkFault(t, unhex("01 02 7d 06"), 0, api.ErrFloat, 2)
	checkFault(t, unhex("02 40 02 7c"), 0, api.ErrFloat, 3)
}

// P6.2: 512 instructions are read, wherever they stand, and one more is one too many.
func TestGetMany(t *testing.T) {
	const most = 512
	wraps := []struct {
		ahead, behind string
		count         int
	}{
		{"", "0b", 0},
		{"02 40", "0b 0b", 1},
		{"04 40 01 01 05", "0b 0b", 3},
		{"03 40 01 0b 04 7f 02 40 01 0b 05 01 0b 20 00", "0b", 7},
		{"0e 02 00 00 00 28 00 00 41 00", "0b", 3},
	}
	for _, w := range wraps {
		ahead, behind := unhex(w.ahead), unhex(w.behind)
		full := slices.Concat(ahead, bytes.Repeat([]byte{0x01}, most-w.count), behind)
		l, n, err := expr.Get(full, 0)
		if count, _ := tree.Count(l); err != nil || n != len(full) || count != most {
			t.Errorf("%q: %d, %v", w.ahead, n, err)
		}
		place := len(ahead) + most - w.count
		upTo := full[:place]
		for _, c := range []struct {
			bytes string
			code  api.Code
		}{
			{"01", api.ErrLarge}, {"01 0b", api.ErrLarge}, {"02", api.ErrLarge}, {"02 7d", api.ErrLarge}, {"04 40 0b", api.ErrLarge}, {"41", api.ErrLarge}, {"0e ff", api.ErrLarge}, {"ad", api.ErrLarge},
			// What is no operation is that first, though it stands at the same place.
			{"43", api.ErrFloat}, {"bf", api.ErrFloat}, {"06", api.ErrForm}, {"ff", api.ErrForm}, {"", api.ErrForm},
		} {
			checkFault(t, slices.Concat(upTo, unhex(c.bytes)), 0, c.code, place)
			checkFault(t, slices.Concat([]byte{0x0b, 0x0b}, upTo, unhex(c.bytes)), 2, c.code, place+2)
		}
	}
	// Behind a block that is closed it still counts.
	b := slices.Concat([]byte{0x04, 0x40}, bytes.Repeat([]byte{0x01}, 255), []byte{0x05}, bytes.Repeat([]byte{0x01}, 256), []byte{0x0b, 0x01, 0x0b})
	checkFault(t, b, 0, api.ErrLarge, 2+255+1+256+1)
	checkFault(t, append(bytes.Repeat([]byte{0x02, 0x40, 0x0b}, 513), 0x0b), 0, api.ErrLarge, 512*3)
}

// P6.2: 32 blocks in one another are read, and one more is too deep.
func TestGetDeep(t *testing.T) {
	const most = 32
	for _, open := range []string{"02 40", "03 7f", "04 7e", "04 40 05", "04 40 01 05"} {
		upTo := bytes.Repeat(unhex(open), most)
		closing := bytes.Repeat([]byte{0x0b}, most+1)
		full := slices.Concat(upTo, []byte{0x01}, closing)
		l, n, err := expr.Get(full, 0)
		if _, depth := tree.Count(l); err != nil || n != len(full) || depth != most {
			t.Errorf("%q: %d, %v", open, n, err)
		}
		for _, c := range []struct {
			bytes string
			code  api.Code
		}{
			{"02", api.ErrLarge}, {"03 40", api.ErrLarge}, {"04 7d", api.ErrLarge}, {"02 06", api.ErrLarge}, {"04 40 0b", api.ErrLarge}, {"43", api.ErrFloat}, {"06", api.ErrForm}, {"", api.ErrForm},
		} {
			checkFault(t, slices.Concat(upTo, unhex(c.bytes)), 0, c.code, len(upTo))
			checkFault(t, slices.Concat(upTo, []byte{0x01, 0x01}, unhex(c.bytes)), 0, c.code, len(upTo)+2)
		}
		// One closed, another one may stand beside it; two may not stand in one another.
		beside := slices.Concat(upTo, []byte{0x0b, 0x02, 0x40, 0x0b}, closing[1:])
		if l, n, err := expr.Get(beside, 0); err != nil || n != len(beside) {
			t.Errorf("%q: %+v, %d, %v", open, l, n, err)
		}
		checkFault(t, slices.Concat(upTo, []byte{0x0b, 0x02, 0x40, 0x03, 0x40}), 0, api.ErrLarge, len(upTo)+3)
	}
	checkFault(t, bytes.Repeat([]byte{0x03, 0x40}, 1<<16), 0, api.ErrLarge, 64)
	// An else is as deep as the body, no deeper.
	inIf := slices.Concat(bytes.Repeat([]byte{0x02, 0x40}, 31), unhex("04 40 01 05 01 0b"), bytes.Repeat([]byte{0x0b}, 32))
	if _, n, err := expr.Get(inIf, 0); err != nil || n != len(inIf) {
		t.Error(n, err)
	}
	checkFault(t, slices.Concat(bytes.Repeat([]byte{0x02, 0x40}, 31), unhex("04 40 05 02 40 0b")), 0, api.ErrLarge, 65)
}

// P6.2: 64 labels are read, the last one among them; how many there are is looked at ahead of them.
func TestGetLabels(t *testing.T) {
	for n := range 64 {
		b, want := []byte{0x01, 0x0e, byte(n)}, make([]int, n+1)
		for i := range want {
			want[i] = (i * 7) % 128
			b = append(b, byte(want[i]))
		}
		b = append(b, 0x0b)
		checkGet(t, b, 0, code(api.Ins{Op: 0x01}, api.Ins{Op: 0x0e, L: want}), len(b))
		checkFault(t, b[:len(b)-2], 0, api.ErrForm, len(b)-2)
	}
	for _, count := range []string{"40", "41", "c000", "c080808000", "7f", "8001", "ffffffff0f", "8080808008", "8080808001"} {
		for _, behind := range [][]byte{nil, make([]byte, 200), {0xff}, {0x0b}} {
			checkFault(t, slices.Concat([]byte{0x01, 0x0e}, unhex(count), behind), 0, api.ErrLarge, 2)
			checkFault(t, slices.Concat([]byte{0x43, 0x02, 0x40, 0x0e}, unhex(count), behind), 1, api.ErrLarge, 4)
		}
	}
}

// scan is the chapter's reading once more, byte by byte with a list of what is open: whether it is one, where it ends, or the fault.
func scan(b []byte, at int) (int, api.Code, int) {
	open, count := []byte{0}, 0
	for {
		if at == len(b) {
			return 0, api.ErrForm, at
		}
		c, top := b[at], len(open)-1
		f, ok := form(int(c))
		switch {
		case c == 0x0b:
			if open = open[:top]; top == 0 {
				return at + 1, 0, 0
			}
			at++
			continue
		case c == 0x05 && open[top] == 0x04:
			open[top] = 0x05
			at++
			continue
		case isFloat(int(c)):
			return 0, api.ErrFloat, at
		case !ok:
			return 0, api.ErrForm, at
		case count == 512, f == "t" && top == 32:
			return 0, api.ErrLarge, at
		}
		count++
		next, fault := skip(b, at+1, f)
		if fault != 0 {
			return 0, fault, next
		}
		if f == "t" {
			open = append(open, c)
		}
		at = next
	}
}

// skip goes past what stands behind an operation's byte, or tells the fault's place.
func skip(b []byte, at int, f string) (int, api.Code) {
	for i := 0; i < len(f); i++ {
		if at == len(b) {
			return at, api.ErrForm
		}
		n, bits, signed := 0, 32, false
		switch f[i] {
		case 't':
			if b[at] == 0x7c || b[at] == 0x7d {
				return at, api.ErrFloat
			}
			if !bytes.Contains([]byte{0x40, 0x7e, 0x7f}, b[at:at+1]) {
				return at, api.ErrForm
			}
			n = 1
		case '0':
			if b[at] != 0 {
				return at, api.ErrForm
			}
			n = 1
		case 'v', 'w':
			bits, signed = map[byte]int{'v': 32, 'w': 64}[f[i]], true
			fallthrough
		default:
			n = width(b[at:], bits, signed)
		}
		if n == 0 {
			return at, api.ErrForm
		}
		if f[i] == 'l' {
			if tooMany(b[at : at+n]) {
				return at, api.ErrLarge
			}
			f = strings.Repeat("a", int(b[at]&0x7f)+1)
			i = -1
		}
		at += n
	}
	return at, 0
}

// tooMany tells whether a number is 64 or more.
func tooMany(number []byte) bool {
	for i, c := range number {
		if i == 0 && c&0x40 != 0 || i > 0 && c&0x7f != 0 {
			return true
		}
	}
	return false
}

// width is how many bytes the number has that begins there, 0 if none does.
func width(b []byte, bits int, signed bool) int {
	for i, c := range b {
		left := bits - 7*i
		if left <= 0 {
			return 0
		}
		if c&0x80 != 0 {
			continue
		}
		if left >= 7 {
			return i + 1
		}
		spare := c >> left
		if spare == 0 && (!signed || c>>(left-1) == 0) || signed && c>>(left-1) == 0x7f>>(left-1) {
			return i + 1
		}
		return 0
	}
	return 0
}

func checkScan(t *testing.T, b []byte, at int) {
	t.Helper()
	next, fault, place := scan(b, at)
	if fault != 0 {
		checkFault(t, b, at, fault, place)
		return
	}
	l, n, err := expr.Get(b, at)
	if err != nil || n != next {
		t.Errorf("Get(%x, %d) = %+v, %d, %v; not up to %d", b, at, l, n, err, next)
		return
	}
	// P6.4: put again it is no longer, and is read as it was.
	again, err := expr.Put(l)
	if err != nil || len(again) > n-at {
		t.Errorf("Get(%x, %d) was put as %x, %v", b, at, again, err)
	}
	checkGet(t, again, 0, l, len(again))
}

// P6.2, P6.4: all short runs of bytes that are there to be told apart.
func TestGetShortRuns(t *testing.T) {
	alphabet := unhex("00 01 02 04 05 0b 0e 11 20 28 3f 40 41 42 43 7d 7f 80 ff")
	run := make([]byte, 0, 4)
	var grow func()
	grow = func() {
		checkScan(t, run, 0)
		if len(run) == cap(run) {
			return
		}
		for _, c := range alphabet {
			run = append(run, c)
			grow()
			run = run[:len(run)-1]
		}
	}
	grow()
}

// P6.2, P6.4: long runs at chance, from each place on.
func TestGetLongRuns(t *testing.T) {
	source := rand.New(rand.NewSource(6))
	alphabet := unhex("00 01 02 40 03 7f 04 7e 05 05 0b 0b 0b 0c 01 0e 01 20 11 00 00 28 3f 00 41 42 80 80 ff 6a")
	for range 4000 {
		b := make([]byte, source.Intn(60))
		for i := range b {
			b[i] = alphabet[source.Intn(len(alphabet))]
		}
		if len(b) > 0 && source.Intn(3) == 0 {
			b[source.Intn(len(b))] = byte(source.Intn(0x100))
		}
		for at := range len(b) + 1 {
			checkScan(t, b, at)
		}
	}
}

// maker makes expressions at chance, that may be read: at most left instructions, and so deep.
type maker struct {
	*rand.Rand
	left int
}

func (m *maker) number() int { return int(m.Uint32() >> m.Intn(32)) }

func (m *maker) list(depth int) []api.Ins {
	var l []api.Ins
	for range m.Intn(12) {
		if m.left == 0 {
			break
		}
		m.left--
		l = append(l, m.ins(depth))
	}
	return l
}

func (m *maker) ins(depth int) api.Ins {
	c := m.Intn(0x100)
	f, ok := form(c)
	if m.Intn(3) == 0 {
		c, f, ok = 2+m.Intn(3), "t", true
	}
	if !ok || f == "t" && depth == 0 {
		return api.Ins{Op: 0x01}
	}
	x := api.Ins{Op: c}
	switch f {
	case "t":
		x.T, x.Body = m.Intn(3), m.list(depth-1)
		if c == 0x04 && m.Intn(2) == 0 {
			x.HasElse, x.Else = true, m.list(depth-1)
		}
	case "a", "a0":
		x.A = m.number()
	case "ab":
		x.A, x.B = m.number(), m.number()
	case "l":
		for range 1 + m.Intn(64) {
			x.L = append(x.L, m.number())
		}
	case "v":
		x.V = uint64(uint32(int32(m.Uint32()) >> m.Intn(32)))
	case "w":
		x.V = uint64(int64(m.Uint64()) >> m.Intn(64))
	}
	return x
}

// P6.4: what was put is read as it was.
func TestPutGet(t *testing.T) {
	source := rand.New(rand.NewSource(64))
	deepest := 0
	for range 3000 {
		m := &maker{Rand: source, left: 512}
		l := m.list(32)
		b, err := expr.Put(l)
		if err != nil {
			t.Fatal(err)
		}
		checkGet(t, b, 0, l, len(b))
		checkScan(t, b, 0)
		checkGet(t, slices.Concat([]byte{0xff, 0x43}, b, []byte{0x0b}), 2, l, len(b)+2)
		_, depth := tree.Count(l)
		deepest = max(deepest, depth)
	}
	if deepest < 8 {
		t.Error("only so deep:", deepest)
	}
}

// P6.4: at the limits it is read as it was; above them it isn't read, at the place that is too much.
func TestPutGetLimits(t *testing.T) {
	deep := func(n int) []api.Ins {
		l := nops(1)
		for range n {
			l = code(api.Ins{Op: 0x04, Body: nops(1), HasElse: true, Else: l})
		}
		return l
	}
	table := func(n int) []api.Ins { return code(api.Ins{Op: 0x0e, L: slices.Repeat([]int{max32}, n)}) }
	for _, c := range []struct {
		fits, above []api.Ins
		place       int
	}{
		{nops(512), nops(513), 512},
		{deep(32), deep(33), 32 * 4},
		{table(64), table(65), 1},
	} {
		b, err := expr.Put(c.fits)
		if err != nil {
			t.Fatal(err)
		}
		checkGet(t, b, 0, c.fits, len(b))
		if b, err = expr.Put(c.above); err != nil {
			t.Fatal(err)
		}
		checkFault(t, b, 0, api.ErrLarge, c.place)
	}
}

// P6.3: what is handed in stays as it is.
func TestUnchanged(t *testing.T) {
	for _, g := range good {
		b := append(unhex(g.bytes), 0x77, 0x88)
		was := slices.Clone(b)
		part := b[:len(b)-2] // with room behind it
		l, _, err := expr.Get(part, 0)
		expr.Get(part[:len(part)-1], 0)
		if err != nil || !bytes.Equal(b, was) {
			t.Errorf("Get(%x) changed it to %x, %v", was, b, err)
		}
		expr.Put(l)
		other, _, _ := expr.Get(part, 0)
		if !reflect.DeepEqual(l, other) {
			t.Errorf("Put(%+v) changed it to %+v", other, l)
		}
	}
	room := append(nops(3), api.Ins{Op: 0x00})
	labels := []int{1, 2, 3, 4}
	room[0] = api.Ins{Op: 0x0e, L: labels[:2]}
	checkPut(t, room[:2], unhex("0e 01 01 02 01 0b"))
	if room[2].Op != 0x01 || room[3].Op != 0x00 || !slices.Equal(labels, []int{1, 2, 3, 4}) {
		t.Error("changed:", room, labels)
	}
}

// lists hands out all lists of an expression, so that each of them can be spoilt.
func lists(l []api.Ins, code func([]api.Ins), labels func([]int)) {
	for i := range l {
		lists(l[i].Body, code, labels)
		lists(l[i].Else, code, labels)
		labels(l[i].L)
	}
	code(l)
}

// P6.3: what was read hangs neither on the bytes, nor on another answer, nor does a list of it on another.
func TestGetNewMemory(t *testing.T) {
	const text = "0e 02 01 02 03 04 40 01 0e 01 01 02 05 01 0e 01 03 04 0b 02 40 01 01 0b 0e 00 09 03 40 01 0b 0b"
	b := unhex(text)
	a, _, err := expr.Get(b, 0)
	other, _, _ := expr.Get(b, 0)
	if err != nil {
		t.Fatal(err)
	}
	for i := range b {
		b[i] = 0xee
	}
	want, _, _ := expr.Get(unhex(text), 0)
	if !same(a, want) {
		t.Error("it hangs on the bytes:", a)
	}
	// An append to a list shows in no other list.
	lists(a, func(l []api.Ins) { _ = append(l, api.Ins{Op: 0x77}, api.Ins{Op: 0x77}) }, func(l []int) { _ = append(l, 77, 77, 77) })
	if !same(a, want) {
		t.Error("its lists share memory:", a)
	}
	marks := 0
	lists(a, func([]api.Ins) {}, func(l []int) {
		marks++
		for i := range l {
			l[i] = marks
		}
	})
	marks = 0
	lists(a, func([]api.Ins) {}, func(l []int) {
		marks++
		for _, n := range l {
			if n != marks {
				t.Error("labels share memory:", a)
			}
		}
	})
	lists(a, func(l []api.Ins) {
		for i := range l {
			l[i] = api.Ins{Op: 0x66}
		}
	}, func([]int) {})
	if !same(other, want) {
		t.Error("it hangs on another answer:", other)
	}
}

// P6.3: what was put hangs on no other answer.
func TestPutNewMemory(t *testing.T) {
	for _, g := range good {
		a, _ := expr.Put(g.l)
		other, _ := expr.Put(g.l)
		for i := range a {
			a[i] = 0xee
		}
		_ = append(a, 0xee, 0xee)
		if !bytes.Equal(other, unhex(g.bytes)) {
			t.Errorf("%x", other)
		}
		checkPut(t, g.l, unhex(g.bytes))
	}
	// A fault is its own, too: who changes one changes no other.
	_, _, first := expr.Get(nil, 0)
	var s *api.Spot
	if !errors.As(first, &s) {
		t.Fatal(first)
	}
	s.At, s.Err = 99, api.ErrTrap
	checkFault(t, nil, 0, api.ErrForm, 0)
}
