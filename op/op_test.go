package op_test

import (
	"fmt"
	"math"
	"reflect"
	"slices"
	"strings"
	"testing"

	"grommet/api"
	"grommet/num"
	"grommet/op"
)

// table is the chapter's, an operation a line: its byte, name, kind, what it takes, what it gives, to how many bytes it goes, and whether the sign counts.
const table = `
00 unreachable Plain - - 0 -
01 nop Plain - - 0 -
02 block Block - - 0 -
03 loop Block - - 0 -
04 if Block I32 - 0 -
0c br Jump - - 0 -
0d br_if Jump I32 - 0 -
0e br_table Jump I32 - 0 -
0f return Jump - - 0 -
10 call Call - - 0 -
11 call_indirect Call I32 - 0 -
1a drop Any - - 0 -
1b select Any I32 - 0 -
20 local.get Var - - 0 -
21 local.set Var - - 0 -
22 local.tee Var - - 0 -
23 global.get Var - - 0 -
24 global.set Var - - 0 -
28 i32.load Load I32 I32 4 -
29 i64.load Load I32 I64 8 -
2c i32.load8_s Load I32 I32 1 s
2d i32.load8_u Load I32 I32 1 -
2e i32.load16_s Load I32 I32 2 s
2f i32.load16_u Load I32 I32 2 -
30 i64.load8_s Load I32 I64 1 s
31 i64.load8_u Load I32 I64 1 -
32 i64.load16_s Load I32 I64 2 s
33 i64.load16_u Load I32 I64 2 -
34 i64.load32_s Load I32 I64 4 s
35 i64.load32_u Load I32 I64 4 -
36 i32.store Store I32,I32 - 4 -
37 i64.store Store I32,I64 - 8 -
3a i32.store8 Store I32,I32 - 1 -
3b i32.store16 Store I32,I32 - 2 -
3c i64.store8 Store I32,I64 - 1 -
3d i64.store16 Store I32,I64 - 2 -
3e i64.store32 Store I32,I64 - 4 -
3f memory.size Size - I32 0 -
40 memory.grow Size I32 I32 0 -
41 i32.const Const - I32 0 -
42 i64.const Const - I64 0 -
45 i32.eqz Number I32 I32 0 -
46 i32.eq Number I32,I32 I32 0 -
47 i32.ne Number I32,I32 I32 0 -
48 i32.lt_s Number I32,I32 I32 0 -
49 i32.lt_u Number I32,I32 I32 0 -
4a i32.gt_s Number I32,I32 I32 0 -
4b i32.gt_u Number I32,I32 I32 0 -
4c i32.le_s Number I32,I32 I32 0 -
4d i32.le_u Number I32,I32 I32 0 -
4e i32.ge_s Number I32,I32 I32 0 -
4f i32.ge_u Number I32,I32 I32 0 -
50 i64.eqz Number I64 I32 0 -
51 i64.eq Number I64,I64 I32 0 -
52 i64.ne Number I64,I64 I32 0 -
53 i64.lt_s Number I64,I64 I32 0 -
54 i64.lt_u Number I64,I64 I32 0 -
55 i64.gt_s Number I64,I64 I32 0 -
56 i64.gt_u Number I64,I64 I32 0 -
57 i64.le_s Number I64,I64 I32 0 -
58 i64.le_u Number I64,I64 I32 0 -
59 i64.ge_s Number I64,I64 I32 0 -
5a i64.ge_u Number I64,I64 I32 0 -
67 i32.clz Number I32 I32 0 -
68 i32.ctz Number I32 I32 0 -
69 i32.popcnt Number I32 I32 0 -
6a i32.add Number I32,I32 I32 0 -
6b i32.sub Number I32,I32 I32 0 -
6c i32.mul Number I32,I32 I32 0 -
6d i32.div_s Number I32,I32 I32 0 -
6e i32.div_u Number I32,I32 I32 0 -
6f i32.rem_s Number I32,I32 I32 0 -
70 i32.rem_u Number I32,I32 I32 0 -
71 i32.and Number I32,I32 I32 0 -
72 i32.or Number I32,I32 I32 0 -
73 i32.xor Number I32,I32 I32 0 -
74 i32.shl Number I32,I32 I32 0 -
75 i32.shr_s Number I32,I32 I32 0 -
76 i32.shr_u Number I32,I32 I32 0 -
77 i32.rotl Number I32,I32 I32 0 -
78 i32.rotr Number I32,I32 I32 0 -
79 i64.clz Number I64 I64 0 -
7a i64.ctz Number I64 I64 0 -
7b i64.popcnt Number I64 I64 0 -
7c i64.add Number I64,I64 I64 0 -
7d i64.sub Number I64,I64 I64 0 -
7e i64.mul Number I64,I64 I64 0 -
7f i64.div_s Number I64,I64 I64 0 -
80 i64.div_u Number I64,I64 I64 0 -
81 i64.rem_s Number I64,I64 I64 0 -
82 i64.rem_u Number I64,I64 I64 0 -
83 i64.and Number I64,I64 I64 0 -
84 i64.or Number I64,I64 I64 0 -
85 i64.xor Number I64,I64 I64 0 -
86 i64.shl Number I64,I64 I64 0 -
87 i64.shr_s Number I64,I64 I64 0 -
88 i64.shr_u Number I64,I64 I64 0 -
89 i64.rotl Number I64,I64 I64 0 -
8a i64.rotr Number I64,I64 I64 0 -
a7 i32.wrap_i64 Number I64 I32 0 -
ac i64.extend_i32_s Number I32 I64 0 -
ad i64.extend_i32_u Number I32 I64 0 -
`

// floatNames are those of the floats' bytes, as the full instruction set has them, in the bytes' order.
const floatNames = `
f32.load f64.load f32.store f64.store f32.const f64.const
f32.eq f32.ne f32.lt f32.gt f32.le f32.ge f64.eq f64.ne f64.lt f64.gt f64.le f64.ge
f32.abs f32.neg f32.ceil f32.floor f32.trunc f32.nearest f32.sqrt
f32.add f32.sub f32.mul f32.div f32.min f32.max f32.copysign
f64.abs f64.neg f64.ceil f64.floor f64.trunc f64.nearest f64.sqrt
f64.add f64.sub f64.mul f64.div f64.min f64.max f64.copysign
i32.trunc_f32_s i32.trunc_f32_u i32.trunc_f64_s i32.trunc_f64_u
i64.trunc_f32_s i64.trunc_f32_u i64.trunc_f64_s i64.trunc_f64_u
f32.convert_i32_s f32.convert_i32_u f32.convert_i64_s f32.convert_i64_u f32.demote_f64
f64.convert_i32_s f64.convert_i32_u f64.convert_i64_s f64.convert_i64_u f64.promote_f32
i32.reinterpret_f32 i64.reinterpret_f64 f32.reinterpret_i32 f64.reinterpret_i64
`

var floatBytes = [][2]int{
	{0x2a, 0x2b}, {0x38, 0x39}, {0x43, 0x44}, {0x5b, 0x66}, {0x8b, 0xa6}, {0xa8, 0xab}, {0xae, 0xbf},
}

var kinds = map[string]int{
	"Plain": api.OpPlain, "Block": api.OpBlock, "Jump": api.OpJump, "Call": api.OpCall, "Any": api.OpAny, "Var": api.OpVar,
	"Load": api.OpLoad, "Store": api.OpStore, "Size": api.OpSize, "Const": api.OpConst, "Number": api.OpNumber,
}

var types = map[string]int{"-": api.None, "I32": api.I32, "I64": api.I64}

func ops(t *testing.T) []api.Op {
	t.Helper()
	var l []api.Op
	for line := range strings.Lines(strings.TrimSpace(table)) {
		var o api.Op
		var kind, takes, gives, sign string
		if _, err := fmt.Sscanf(line, "%x %s %s %s %s %d %s", &o.Byte, &o.Name, &kind, &takes, &gives, &o.Bytes, &sign); err != nil {
			t.Fatal(line, err)
		}
		o.Kind, o.Gives, o.Signed = kinds[kind], types[gives], sign == "s"
		if takes != "-" {
			for w := range strings.SplitSeq(takes, ",") {
				o.Takes = append(o.Takes, types[w])
			}
		}
		l = append(l, o)
	}
	return l
}

// same takes a list of nothing to be the same, nil or empty.
func same(a, b api.Op) bool {
	if !slices.Equal(a.Takes, b.Takes) {
		return false
	}
	a.Takes, b.Takes = nil, nil
	return reflect.DeepEqual(a, b)
}

func isZero(o api.Op) bool { return same(o, api.Op{}) }

func isFloat(b int) bool {
	return slices.ContainsFunc(floatBytes, func(r [2]int) bool { return b >= r[0] && b <= r[1] })
}

// TestTable holds the test's own table to the chapter's numbers, so that no line of it is lost.
func TestTable(t *testing.T) {
	l := ops(t)
	if len(l) != 41+2*29+3 {
		t.Error("operations:", len(l))
	}
	n := 0
	for b := range 256 {
		if isFloat(b) {
			n++
		}
	}
	if f := len(strings.Fields(floatNames)); n != f {
		t.Error("floats:", n, "bytes,", f, "names")
	}
}

// P4.1: each operation there is, all of it.
func TestLook(t *testing.T) {
	for _, want := range ops(t) {
		got, err := op.Look(want.Byte)
		if err != nil || !same(got, want) {
			t.Errorf("Look(%x) = %+v, %v; not %+v", want.Byte, got, err, want)
		}
	}
}

// P4.1: every other number is a float's, or none.
func TestLookWrong(t *testing.T) {
	there := map[int]bool{}
	for _, o := range ops(t) {
		there[o.Byte] = true
	}
	check := func(b int) {
		want := error(api.ErrNone)
		if isFloat(b) {
			want = api.ErrFloat
		}
		if got, err := op.Look(b); err != want || !isZero(got) {
			t.Errorf("Look(%x) = %+v, %v; not %v", b, got, err, want)
		}
	}
	for b := -0x400; b < 0x1000; b++ {
		if !there[b] {
			check(b)
		}
	}
	for _, b := range []int{math.MinInt, math.MinInt + 0x45, math.MinInt32, math.MaxInt32, math.MaxInt, math.MaxInt - 0x45, 1<<32 + 0x41, 1<<32 + 0x43, math.MinInt + 0x43} {
		check(b)
	}
}

// P4.2: each operation there is, by its name.
func TestFind(t *testing.T) {
	for _, want := range ops(t) {
		// The name that is asked for is not the table's own text.
		got, err := op.Find(strings.Clone(want.Name))
		if err != nil || !same(got, want) {
			t.Errorf("Find(%s) = %+v, %v; not %+v", want.Name, got, err, want)
		}
	}
}

// P4.2: a float's name is told by how it begins, or ends, whatever else it is.
func TestFindFloat(t *testing.T) {
	l := strings.Fields(floatNames)
	for _, f := range []string{"f32", "f64"} {
		l = append(l, f+".", f+".no such thing", f+".load_s", f+".i32.add")
		for _, end := range []string{"", "_s", "_u"} {
			l = append(l, "_"+f+end, "i32.add_"+f+end, "no such thing_"+f+end, "nop_"+f+end, "_s_"+f+end, "_f32_f64_"+f+end)
		}
	}
	for _, name := range l {
		if got, err := op.Find(name); err != error(api.ErrFloat) || !isZero(got) {
			t.Errorf("Find(%q) = %+v, %v; not ErrFloat", name, got, err)
		}
	}
}

// P4.2: names that there are not.
func TestFindWrong(t *testing.T) {
	l := []string{
		"", " ", ".", "_", "\x00", "\xff", "else", "end", "func", "i32", "i64", "i32.", "i64.", "i32.load8", "i32.load32_s", "i32.load64", "i64.load64_u",
		"i32.store32", "i64.store64", "i32.store8_s", "i32.extend_i32_s", "i64.wrap_i64", "i32.wrap_i32", "i64.extend_i64_u", "i32.extend8_s", "get_local", "current_memory", "eqz", "add",
		"f32", "f64", "_s", "_u", "f", "f3", "f32load", "f16.load", "f128.add", "F32.load", " f32.load", "xf32.add", "i32.f32.add",
		"f32_s", "f64_u", "i32.trunc f32_s", "i32.trunc_f32_", "i32.trunc_f32_x", "i32.trunc_f32_S", "i32.trunc_f64 ", "i32.trunc_f64_s ", "i32.trunc_f32_s_s", "i32.trunc_f32_s_u", "i32.trunc_f32_u_s", "i32.trunc_f64_u_u", "_f32s", "_f32x4", "_f64.", "trunc_f32.", "_F64", "i64.trunc_f16_s",
		strings.Repeat("i32.add", 1000),
	}
	there := map[string]bool{}
	for _, o := range ops(t) {
		there[o.Name] = true
	}
	for name := range there {
		for _, other := range []string{name + " ", " " + name, name + "\x00", name + "_", name + "x", "x" + name, name[1:], name[:len(name)-1], strings.ToUpper(name), strings.Title(name), name + name} {
			if !there[other] {
				l = append(l, other)
			}
		}
	}
	for _, name := range l {
		if got, err := op.Find(name); err != error(api.ErrNone) || !isZero(got) {
			t.Errorf("Find(%q) = %+v, %v; not ErrNone", name, got, err)
		}
	}
}

// P4.3: who changes what was told changes nothing that is told to others.
func TestNewMemory(t *testing.T) {
	spoil := func(o api.Op) {
		for i := range o.Takes {
			o.Takes[i] = -1
		}
		_ = append(o.Takes, -1)
	}
	for _, want := range ops(t) {
		looked, _ := op.Look(want.Byte)
		again, _ := op.Look(want.Byte)
		found, _ := op.Find(want.Name)
		spoil(looked)
		if !same(again, want) || !same(found, want) {
			t.Errorf("%s hangs on another answer: %+v, %+v", want.Name, again, found)
		}
		spoil(found)
		if !same(again, want) {
			t.Errorf("%s hangs on another answer: %+v", want.Name, again)
		}
	}
	for _, want := range ops(t) {
		looked, _ := op.Look(want.Byte)
		found, _ := op.Find(want.Name)
		if !same(looked, want) || !same(found, want) {
			t.Errorf("%s was spoilt: %+v, %+v", want.Name, looked, found)
		}
	}
}

// P4.4: by its name it is what it is by its byte; a Number takes as many as layer 3 says, and nothing else is layer 3's.
func TestFollows(t *testing.T) {
	found := 0
	for b := -1; b <= 0x100; b++ {
		looked, err := op.Look(b)
		n, isNumber := num.Args(b)
		if err != nil {
			if isNumber {
				t.Errorf("%x is one of layer 3's, but %v", b, err)
			}
			continue
		}
		found++
		byName, err := op.Find(looked.Name)
		if err != nil || !same(byName, looked) {
			t.Errorf("Find(%s) = %+v, %v; not %+v", looked.Name, byName, err, looked)
		}
		if isNumber != (looked.Kind == api.OpNumber) || isNumber && len(looked.Takes) != n {
			t.Errorf("%s: layer 3 says %d, %v; it is %+v", looked.Name, n, isNumber, looked)
		}
	}
	if found != len(ops(t)) {
		t.Error("found", found)
	}
}

// P4.4: a Number's types are those of the values that layer 3 takes, and tells.
func TestNumberTypes(t *testing.T) {
	for _, o := range ops(t) {
		if o.Kind != api.OpNumber {
			continue
		}
		got, err := op.Look(o.Byte)
		if err != nil || len(got.Takes) == 0 {
			t.Fatalf("Look(%x) = %+v, %v", o.Byte, got, err)
		}
		large := slices.Repeat([]uint64{1 << 32}, len(got.Takes))
		if _, _, err := num.Eval(o.Byte, large); (err == nil) != (got.Takes[0] == api.I64) {
			t.Errorf("%s takes %v, of 2^32 layer 3 says %v", got.Name, got.Takes, err)
		}
	}
}

// The chapter's examples.
func TestExamples(t *testing.T) {
	got, err := op.Find("i64.load16_u")
	want := api.Op{Byte: 0x33, Name: "i64.load16_u", Kind: api.OpLoad, Takes: []int{api.I32}, Gives: api.I64, Bytes: 2}
	if err != nil || !same(got, want) {
		t.Errorf("Find(i64.load16_u) = %+v, %v", got, err)
	}
	if got, err := op.Look(0x43); err != error(api.ErrFloat) || !isZero(got) {
		t.Errorf("Look(43) = %+v, %v", got, err)
	}
}
