package num

import (
	"fmt"
	"math"
	"math/big"
	"math/bits"
	"slices"
	"strings"
	"testing"

	"grommet/api"
)

// row is a line of the chapter's table, of one type: its byte, what it is, its arguments' bits.
type row struct {
	op    int
	what  string
	args  int
	width int
}

// table is written out, so that a byte at a wrong place shows.
var table = []row{
	{0x45, "zero", 1, 32}, {0x50, "zero", 1, 64},
	{0x46, "=", 2, 32}, {0x51, "=", 2, 64},
	{0x47, "!=", 2, 32}, {0x52, "!=", 2, 64},
	{0x48, "<s", 2, 32}, {0x53, "<s", 2, 64},
	{0x49, "<", 2, 32}, {0x54, "<", 2, 64},
	{0x4a, ">s", 2, 32}, {0x55, ">s", 2, 64},
	{0x4b, ">", 2, 32}, {0x56, ">", 2, 64},
	{0x4c, "<=s", 2, 32}, {0x57, "<=s", 2, 64},
	{0x4d, "<=", 2, 32}, {0x58, "<=", 2, 64},
	{0x4e, ">=s", 2, 32}, {0x59, ">=s", 2, 64},
	{0x4f, ">=", 2, 32}, {0x5a, ">=", 2, 64},
	{0x67, "highest", 1, 32}, {0x79, "highest", 1, 64},
	{0x68, "lowest", 1, 32}, {0x7a, "lowest", 1, 64},
	{0x69, "ones", 1, 32}, {0x7b, "ones", 1, 64},
	{0x6a, "+", 2, 32}, {0x7c, "+", 2, 64},
	{0x6b, "-", 2, 32}, {0x7d, "-", 2, 64},
	{0x6c, "*", 2, 32}, {0x7e, "*", 2, 64},
	{0x6d, "/s", 2, 32}, {0x7f, "/s", 2, 64},
	{0x6e, "/", 2, 32}, {0x80, "/", 2, 64},
	{0x6f, "%s", 2, 32}, {0x81, "%s", 2, 64},
	{0x70, "%", 2, 32}, {0x82, "%", 2, 64},
	{0x71, "and", 2, 32}, {0x83, "and", 2, 64},
	{0x72, "or", 2, 32}, {0x84, "or", 2, 64},
	{0x73, "xor", 2, 32}, {0x85, "xor", 2, 64},
	{0x74, "up", 2, 32}, {0x86, "up", 2, 64},
	{0x75, "down s", 2, 32}, {0x87, "down s", 2, 64},
	{0x76, "down", 2, 32}, {0x88, "down", 2, 64},
	{0x77, "turn up", 2, 32}, {0x89, "turn up", 2, 64},
	{0x78, "turn down", 2, 32}, {0x8a, "turn down", 2, 64},
	{0xa7, "wrap", 1, 64},
	{0xac, "extend s", 1, 32},
	{0xad, "extend", 1, 32},
}

// nobody are numbers that no line of the table has.
func nobody() []int {
	l := []int{math.MinInt, math.MinInt + 0x50, math.MinInt32, math.MaxInt32, math.MaxInt, 1<<8 + 0x6a, 1<<32 + 0x6a, 1<<32 + 0xa7}
	for op := -0x200; op <= 0x400; op++ {
		if !slices.ContainsFunc(table, func(r row) bool { return r.op == op }) {
			l = append(l, op)
		}
	}
	return l
}

// values are edges of a width, and some from between, of a fixed rule.
func values(width int) []uint64 {
	top := uint64(1) << (width - 1)
	all := top<<1 - 1
	l := []uint64{0, 1, 2, 3, 5, 7, 10, 31, 32, 33, 63, 64, 65, 95, 96, 127, 128, 129, 0xff, 0x100, 0xffff,
		top - 2, top - 1, top, top + 1, top + 2, top | top>>1, top >> 1, all - 32, all - 7, all - 2, all - 1, all}
	if width == 64 {
		l = append(l, 1<<31-1, 1<<31, 1<<32-1, 1<<32, 1<<32+1, 1<<40+5, 1<<63|1<<31)
	}
	x := uint64(0x9e3779b97f4a7c15)
	for range 30 {
		x = x*6364136223846793005 + 1442695040888963407
		l = append(l, (x>>7^x<<11)&all)
	}
	return l
}

func number(v uint64) *big.Int { return new(big.Int).SetUint64(v) }

func power(n int) *big.Int { return new(big.Int).Lsh(big.NewInt(1), uint(n)) }

// with counts the highest bit as less.
func with(v uint64, width int) *big.Int {
	n := number(v)
	if v>>(width-1) == 1 {
		n.Sub(n, power(width))
	}
	return n
}

func modulo(n *big.Int, width int) uint64 {
	return new(big.Int).Mod(n, power(width)).Uint64()
}

func digits(v uint64, width int) string { return fmt.Sprintf("%0*b", width, v) }

func undigits(s string) uint64 {
	n, ok := new(big.Int).SetString(s, 2)
	if !ok {
		panic(s)
	}
	return n.Uint64()
}

func bit(is bool) uint64 {
	if is {
		return 1
	}
	return 0
}

// expected is the chapter's table once more, told by large numbers and by digits.
func expected(r row, args []uint64) (uint64, int) {
	a := args[0]
	d := digits(a, r.width)
	switch r.what {
	case "zero":
		return bit(a == 0), 0
	case "highest":
		return uint64(r.width - len(strings.TrimLeft(d, "0"))), 0
	case "lowest":
		return uint64(r.width - len(strings.TrimRight(d, "0"))), 0
	case "ones":
		return uint64(strings.Count(d, "1")), 0
	case "wrap":
		return undigits(d[32:]), 0
	case "extend":
		return undigits(strings.Repeat("0", 32) + d), 0
	case "extend s":
		return undigits(strings.Repeat(d[:1], 32) + d), 0
	}
	return expectedOfTwo(r, a, args[1])
}

func expectedOfTwo(r row, a, b uint64) (uint64, int) {
	x, y := number(a), number(b)
	what, sign := strings.CutSuffix(r.what, "s")
	if sign {
		x, y = with(a, r.width), with(b, r.width)
	}
	z := new(big.Int)
	switch strings.TrimSpace(what) {
	case "=":
		return bit(x.Cmp(y) == 0), 0
	case "!=":
		return bit(x.Cmp(y) != 0), 0
	case "<":
		return bit(x.Cmp(y) < 0), 0
	case ">":
		return bit(x.Cmp(y) > 0), 0
	case "<=":
		return bit(x.Cmp(y) <= 0), 0
	case ">=":
		return bit(x.Cmp(y) >= 0), 0
	case "+":
		return modulo(z.Add(x, y), r.width), 0
	case "-":
		return modulo(z.Sub(x, y), r.width), 0
	case "*":
		return modulo(z.Mul(x, y), r.width), 0
	case "/":
		if b == 0 {
			return 0, api.TrapDiv
		}
		z.Quo(x, y)
		if sign && z.Cmp(power(r.width-1)) == 0 {
			return 0, api.TrapOver
		}
		return modulo(z, r.width), 0
	case "%":
		if b == 0 {
			return 0, api.TrapDiv
		}
		return modulo(z.Rem(x, y), r.width), 0
	}
	return expectedOfBits(r, a, b), 0
}

func expectedOfBits(r row, a, b uint64) uint64 {
	d, e := digits(a, r.width), digits(b, r.width)
	by := int(b % uint64(r.width))
	switch r.what {
	case "and", "or", "xor":
		out := make([]byte, r.width)
		for i := range out {
			ones := int(d[i]-'0') + int(e[i]-'0')
			is := r.what == "and" && ones == 2 || r.what == "or" && ones > 0 || r.what == "xor" && ones == 1
			out[i] = '0' + byte(bit(is))
		}
		return undigits(string(out))
	case "up":
		return undigits(d[by:] + strings.Repeat("0", by))
	case "down":
		return undigits(strings.Repeat("0", by) + d[:r.width-by])
	case "down s":
		return undigits(strings.Repeat(d[:1], by) + d[:r.width-by])
	case "turn up":
		return undigits(d[by:] + d[:by])
	case "turn down":
		return undigits(d[r.width-by:] + d[:r.width-by])
	}
	panic(r.what)
}

// lists are all that a line's arguments are tried with.
func lists(r row) [][]uint64 {
	var l [][]uint64
	for _, a := range values(r.width) {
		if r.args == 1 {
			l = append(l, []uint64{a})
			continue
		}
		for _, b := range values(r.width) {
			l = append(l, []uint64{a, b})
		}
	}
	return l
}

func refused(t *testing.T, op int, args []uint64) {
	t.Helper()
	if v, trap, err := Eval(op, args); v != 0 || trap != 0 || err != error(api.ErrArg) {
		t.Errorf("Eval(%x, %x) = %x, %d, %v", op, args, v, trap, err)
	}
}

// must is of what isn't refused and doesn't trap.
func must(t *testing.T, op int, args ...uint64) uint64 {
	t.Helper()
	v, trap, err := Eval(op, args)
	if trap != 0 || err != nil {
		t.Fatalf("Eval(%x, %x) = %x, %d, %v", op, args, v, trap, err)
	}
	return v
}

// P3.1
func TestArgs(t *testing.T) {
	if len(table) != 2*11+2*18+3 {
		t.Fatal(len(table))
	}
	for _, r := range table {
		if n, is := Args(r.op); n != r.args || !is {
			t.Errorf("Args(%x) = %d, %v", r.op, n, is)
		}
	}
	for _, op := range nobody() {
		if n, is := Args(op); n != 0 || is {
			t.Errorf("Args(%x) = %d, %v", op, n, is)
		}
	}
}

// P3.2
func TestEvalExamples(t *testing.T) {
	const low32, low64 = 1 << 31, 1 << 63
	const all32, all64 = 1<<32 - 1, 1<<64 - 1
	for _, x := range []struct {
		op   int
		args []uint64
		want uint64
		trap int
	}{
		{0x6d, []uint64{1 << 31, 1<<32 - 1}, 0, api.TrapOver},
		{0x75, []uint64{1 << 31, 33}, 0xc0000000, 0},
		{0x45, []uint64{0}, 1, 0}, {0x45, []uint64{low32}, 0, 0},
		{0x50, []uint64{0}, 1, 0}, {0x50, []uint64{1 << 32}, 0, 0},
		{0x48, []uint64{all32, 0}, 1, 0}, {0x49, []uint64{all32, 0}, 0, 0},
		{0x53, []uint64{all64, 0}, 1, 0}, {0x54, []uint64{all64, 0}, 0, 0},
		{0x53, []uint64{all32, 0}, 0, 0},
		{0x4c, []uint64{low32, low32}, 1, 0}, {0x58, []uint64{low64, 1}, 0, 0},
		{0x67, []uint64{0}, 32, 0}, {0x79, []uint64{0}, 64, 0},
		{0x68, []uint64{0}, 32, 0}, {0x7a, []uint64{0}, 64, 0},
		{0x67, []uint64{low32}, 0, 0}, {0x79, []uint64{low32}, 32, 0},
		{0x68, []uint64{low32}, 31, 0}, {0x7a, []uint64{low64}, 63, 0},
		{0x69, []uint64{all32}, 32, 0}, {0x7b, []uint64{all64}, 64, 0},
		{0x6a, []uint64{all32, 2}, 1, 0}, {0x7c, []uint64{all64, 2}, 1, 0}, {0x7c, []uint64{all32, 2}, 1<<32 + 1, 0},
		{0x6b, []uint64{0, 1}, all32, 0}, {0x7d, []uint64{0, 1}, all64, 0},
		{0x6c, []uint64{1 << 16, 1 << 16}, 0, 0}, {0x7e, []uint64{1 << 16, 1 << 16}, 1 << 32, 0},
		{0x6d, []uint64{all32 - 6, 2}, all32 - 2, 0}, {0x6e, []uint64{all32 - 6, 2}, 0x7ffffffc, 0},
		{0x6f, []uint64{all32 - 6, 2}, all32, 0}, {0x6f, []uint64{7, all32 - 1}, 1, 0}, {0x70, []uint64{all32 - 6, 2}, 1, 0},
		{0x6d, []uint64{1, 0}, 0, api.TrapDiv}, {0x6e, []uint64{1, 0}, 0, api.TrapDiv},
		{0x6f, []uint64{1, 0}, 0, api.TrapDiv}, {0x70, []uint64{0, 0}, 0, api.TrapDiv},
		{0x7f, []uint64{low64, 0}, 0, api.TrapDiv}, {0x80, []uint64{1, 0}, 0, api.TrapDiv},
		{0x81, []uint64{1, 0}, 0, api.TrapDiv}, {0x82, []uint64{0, 0}, 0, api.TrapDiv},
		{0x7f, []uint64{low64, all64}, 0, api.TrapOver}, {0x7f, []uint64{low32, all32}, 0, 0},
		{0x7f, []uint64{low32, all64}, all64 - low32 + 1, 0},
		{0x6f, []uint64{low32, all32}, 0, 0}, {0x81, []uint64{low64, all64}, 0, 0},
		{0x6e, []uint64{low32, all32}, 0, 0}, {0x80, []uint64{low64, all64}, 0, 0},
		{0x74, []uint64{3, 31}, low32, 0}, {0x74, []uint64{3, 32}, 3, 0}, {0x86, []uint64{3, 32}, 3 << 32, 0}, {0x86, []uint64{3, 64}, 3, 0},
		{0x76, []uint64{low32, 33}, 1 << 30, 0}, {0x87, []uint64{low64, 65}, 3 << 62, 0}, {0x88, []uint64{low64, 65}, 1 << 62, 0},
		{0x77, []uint64{low32 + 1, 33}, 3, 0}, {0x78, []uint64{3, 1}, low32 + 1, 0},
		{0x89, []uint64{low64 + 1, 65}, 3, 0}, {0x8a, []uint64{3, 1}, low64 + 1, 0},
		{0xa7, []uint64{1<<40 + 5}, 5, 0}, {0xa7, []uint64{all64}, all32, 0},
		{0xac, []uint64{low32}, 0xffffffff80000000, 0}, {0xac, []uint64{low32 - 1}, low32 - 1, 0},
		{0xad, []uint64{low32}, low32, 0}, {0xad, []uint64{all32}, all32, 0},
	} {
		if v, trap, err := Eval(x.op, x.args); v != x.want || trap != x.trap || err != nil {
			t.Errorf("Eval(%x, %x) = %x, %d, %v", x.op, x.args, v, trap, err)
		}
	}
}

// P3.2
func TestEvalTable(t *testing.T) {
	for _, r := range table {
		for _, args := range lists(r) {
			want, kind := expected(r, args)
			if v, trap, err := Eval(r.op, args); v != want || trap != kind || err != nil {
				t.Fatalf("Eval(%x, %x) = %x, %d, %v; want %x, %d (%s)", r.op, args, v, trap, err, want, kind, r.what)
			}
		}
	}
}

// P3.2: every shift there is, of either width, and beyond it.
func TestEvalShifts(t *testing.T) {
	for _, r := range table {
		if !strings.Contains(r.what, "up") && !strings.Contains(r.what, "down") {
			continue
		}
		for b := uint64(0); b <= 200; b++ {
			for _, a := range []uint64{1, 0x80000001, 0xdeadbeef, 0x7fffffff} {
				want, _ := expected(r, []uint64{a, b})
				if v := must(t, r.op, a, b); v != want {
					t.Fatalf("Eval(%x, %x, %d) = %x; want %x", r.op, a, b, v, want)
				}
			}
		}
	}
}

// P3.2: no operation, not as many arguments, no value.
func TestEvalRefuses(t *testing.T) {
	for _, op := range nobody() {
		for n := range 4 {
			refused(t, op, make([]uint64, n))
		}
		refused(t, op, nil)
		refused(t, op, []uint64{1 << 32, 1 << 63})
	}
	for _, r := range table {
		refused(t, r.op, nil)
		for n := range 5 {
			if n != r.args {
				refused(t, r.op, make([]uint64, n))
				refused(t, r.op, slices.Repeat([]uint64{1}, n))
			}
		}
		for i := range r.args {
			for _, v := range []uint64{1 << 32, 1<<32 + 1, 1 << 33, 1 << 63, 1<<64 - 1} {
				args := slices.Repeat([]uint64{1}, r.args)
				args[i] = v
				if r.width == 32 {
					refused(t, r.op, args)
				} else {
					must(t, r.op, args...)
				}
			}
		}
	}
	// An argument that is no value counts ahead of a trap.
	refused(t, 0x6d, []uint64{1 << 32, 0})
	refused(t, 0x70, []uint64{1, 0, 0})
}

// P3.2: what comes of it is a value of its type.
func TestEvalTellsValues(t *testing.T) {
	for _, r := range table {
		for _, args := range lists(r) {
			v, _, _ := Eval(r.op, args)
			wide := r.op >= 0x79 && r.op <= 0x8a || r.op == 0xac || r.op == 0xad
			if !wide && v >= 1<<32 || r.op <= 0x5a && v > 1 {
				t.Fatalf("Eval(%x, %x) = %x", r.op, args, v)
			}
		}
	}
}

// P3.3
func TestEvalLeavesArguments(t *testing.T) {
	for _, r := range table {
		for _, first := range []uint64{1 << 31, 7, 0} {
			backing := []uint64{first, 3, 5, 6}
			args := backing[:r.args]
			v, trap, err := Eval(r.op, args)
			if !slices.Equal(backing, []uint64{first, 3, 5, 6}) {
				t.Errorf("Eval(%x) left %x", r.op, backing)
			}
			copy(backing, []uint64{9, 9, 9, 9})
			Eval(r.op, args)
			w, again, fault := Eval(r.op, []uint64{first, 3}[:r.args])
			if w != v || again != trap || fault != err {
				t.Errorf("Eval(%x) = %x, %d, %v, then %x, %d, %v", r.op, v, trap, err, w, again, fault)
			}
		}
	}
	// What is refused, and what traps, is left as it was too.
	for _, args := range [][]uint64{{1 << 32, 1}, {1, 0}, {1 << 31, 1<<32 - 1}, {1}, {1, 2, 3}} {
		was := slices.Clone(args)
		Eval(0x6d, args)
		if !slices.Equal(args, was) {
			t.Errorf("Eval left %x of %x", args, was)
		}
	}
}

// P3.4: a quotient times b and the rest are a.
func TestQuotientAndRest(t *testing.T) {
	for _, x := range []struct{ width, div, rem, mul, add int }{
		{32, 0x6d, 0x6f, 0x6c, 0x6a}, {32, 0x6e, 0x70, 0x6c, 0x6a},
		{64, 0x7f, 0x81, 0x7e, 0x7c}, {64, 0x80, 0x82, 0x7e, 0x7c},
	} {
		for _, a := range values(x.width) {
			for _, b := range values(x.width) {
				q, trap, err := Eval(x.div, []uint64{a, b})
				if err != nil {
					t.Fatal(err)
				}
				if trap != 0 {
					continue
				}
				r := must(t, x.rem, a, b)
				if v := must(t, x.add, must(t, x.mul, q, b), r); v != a {
					t.Fatalf("%x: %x by %x is %x, rest %x", x.div, a, b, q, r)
				}
			}
		}
	}
}

// P3.4: turned up and down, wrapped behind being extended, shifted up.
func TestThereAndBack(t *testing.T) {
	for _, x := range []struct{ width, up, down, shl, mul int }{
		{32, 0x77, 0x78, 0x74, 0x6c}, {64, 0x89, 0x8a, 0x86, 0x7e},
	} {
		for _, a := range values(x.width) {
			for _, b := range values(x.width) {
				if v := must(t, x.down, must(t, x.up, a, b), b); v != a {
					t.Fatalf("%x turned by %x is %x", a, b, v)
				}
				if v := must(t, x.up, must(t, x.down, a, b), b); v != a {
					t.Fatalf("%x turned by %x is %x", a, b, v)
				}
			}
			for n := range uint64(x.width) {
				if must(t, x.shl, a, n) != must(t, x.mul, a, 1<<n) {
					t.Fatalf("%x shifted up by %d", a, n)
				}
			}
		}
	}
	for _, a := range values(32) {
		for _, op := range []int{0xac, 0xad} {
			if v := must(t, 0xa7, must(t, op, a)); v != a {
				t.Fatalf("%x extended by %x and wrapped is %x", a, op, v)
			}
		}
	}
}

// P3.4: and, and or, together are both together; or less and is xor.
func TestAndOrXor(t *testing.T) {
	for _, x := range []struct{ width, and, or, xor, add, sub int }{
		{32, 0x71, 0x72, 0x73, 0x6a, 0x6b}, {64, 0x83, 0x84, 0x85, 0x7c, 0x7d},
	} {
		for _, a := range values(x.width) {
			for _, b := range values(x.width) {
				both, either := must(t, x.and, a, b), must(t, x.or, a, b)
				if must(t, x.add, both, either) != must(t, x.add, a, b) {
					t.Fatalf("%x and, or %x together", a, b)
				}
				if must(t, x.sub, either, both) != must(t, x.xor, a, b) {
					t.Fatalf("%x or less and %x", a, b)
				}
			}
		}
	}
}

// The three counts belong together: of no bit all are the width's or none, else they leave room for each other.
func TestCounts(t *testing.T) {
	for _, x := range []struct{ width, high, low, ones int }{{32, 0x67, 0x68, 0x69}, {64, 0x79, 0x7a, 0x7b}} {
		for i := range x.width {
			for j := range i + 1 {
				v := uint64(1)<<i | uint64(1)<<j
				h, l, n := must(t, x.high, v), must(t, x.low, v), must(t, x.ones, v)
				if h != uint64(x.width-1-i) || l != uint64(j) || n != uint64(bits.OnesCount64(v)) {
					t.Fatalf("%x: %d, %d, %d", v, h, l, n)
				}
			}
		}
	}
}
