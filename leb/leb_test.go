package leb

import (
	"bytes"
	"math"
	"math/big"
	"math/bits"
	"slices"
	"testing"

	"grommet/api"
)

// checkU reads, and asks for exactly this answer; an error is asked to be the Code itself.
func checkU(t *testing.T, b []byte, at, width int, v uint64, next int, want error) {
	t.Helper()
	gotV, gotNext, err := U(b, at, width)
	if gotV != v || gotNext != next || err != want {
		t.Errorf("U(% x, %d, %d) = %d, %d, %v; want %d, %d, %v", b, at, width, gotV, gotNext, err, v, next, want)
	}
}

func checkS(t *testing.T, b []byte, at, width int, v int64, next int, want error) {
	t.Helper()
	gotV, gotNext, err := S(b, at, width)
	if gotV != v || gotNext != next || err != want {
		t.Errorf("S(% x, %d, %d) = %d, %d, %v; want %d, %d, %v", b, at, width, gotV, gotNext, err, v, next, want)
	}
}

// repeat is n times c, and then the tail.
func repeat(c byte, n int, tail ...byte) []byte {
	return append(bytes.Repeat([]byte{c}, n), tail...)
}

func TestExamples(t *testing.T) {
	checkU(t, []byte{0xe5, 0x8e, 0x26}, 0, 32, 624485, 3, nil)
	checkS(t, []byte{0x7f}, 0, 32, -1, 1, nil)
	if b := PutS(64); !bytes.Equal(b, []byte{0xc0, 0x00}) {
		t.Errorf("PutS(64) = % x", b)
	}
}

// P1.1: numbers without a sign.
func TestReadWithoutSign(t *testing.T) {
	cases := []struct {
		b     []byte
		at    int
		width int
		v     uint64
		next  int
	}{
		{[]byte{0x00}, 0, 1, 0, 1},
		{[]byte{0x01}, 0, 1, 1, 1},
		{[]byte{0x03}, 0, 2, 3, 1},
		{[]byte{0x7f}, 0, 7, 127, 1},
		{[]byte{0x7f}, 0, 8, 127, 1},
		{[]byte{0xff, 0x01}, 0, 8, 255, 2},
		{[]byte{0xff, 0x7f}, 0, 14, 16383, 2},
		{[]byte{9, 0xe5, 0x8e, 0x26, 1}, 1, 32, 624485, 4},
		{[]byte{0xff, 0x05, 0xff}, 1, 32, 5, 2},
		{repeat(0xff, 4, 0x0f), 0, 32, math.MaxUint32, 5},
		{repeat(0xff, 8, 0x7f), 0, 63, math.MaxInt64, 9},
		{repeat(0xff, 9, 0x01), 0, 64, math.MaxUint64, 10},
		{repeat(0x80, 9, 0x01), 0, 64, 1 << 63, 10},
		{repeat(0xff, 8, 0x7f), 0, 64, math.MaxInt64, 9},
		// More bytes than the number needs.
		{[]byte{0x83, 0x80, 0x00}, 0, 32, 3, 3},
		{repeat(0x80, 4, 0x00), 0, 32, 0, 5},
		{repeat(0x80, 9, 0x00), 0, 64, 0, 10},
	}
	for _, c := range cases {
		checkU(t, c.b, c.at, c.width, c.v, c.next, nil)
	}
}

// P1.1: numbers with a sign.
func TestReadWithSign(t *testing.T) {
	cases := []struct {
		b     []byte
		at    int
		width int
		v     int64
		next  int
	}{
		{[]byte{0x00}, 0, 1, 0, 1},
		{[]byte{0x7f}, 0, 1, -1, 1},
		{[]byte{0x01}, 0, 2, 1, 1},
		{[]byte{0x7e}, 0, 2, -2, 1},
		{[]byte{0x3f}, 0, 7, 63, 1},
		{[]byte{0x40}, 0, 7, -64, 1},
		{[]byte{0x40}, 0, 8, -64, 1},
		{[]byte{0xff, 0x00}, 0, 8, 127, 2},
		{[]byte{0x80, 0x7f}, 0, 8, -128, 2},
		{[]byte{0xc0, 0xbb, 0x78}, 0, 32, -123456, 3},
		{[]byte{0xff, 0x3e, 0xff}, 1, 32, 62, 2},
		{repeat(0xff, 4, 0x07), 0, 32, math.MaxInt32, 5},
		{repeat(0x80, 4, 0x78), 0, 32, math.MinInt32, 5},
		{repeat(0xff, 8, 0x3f), 0, 63, math.MaxInt64 / 2, 9},
		{repeat(0x80, 8, 0x40), 0, 63, math.MinInt64 / 2, 9},
		{repeat(0x80, 8, 0x40), 0, 64, math.MinInt64 / 2, 9},
		{repeat(0xff, 9, 0x00), 0, 64, math.MaxInt64, 10},
		{repeat(0x80, 9, 0x7f), 0, 64, math.MinInt64, 10},
		// More bytes than the number needs.
		{repeat(0xff, 4, 0x7f), 0, 32, -1, 5},
		{[]byte{0x83, 0x80, 0x00}, 0, 32, 3, 3},
		{repeat(0xff, 9, 0x7f), 0, 64, -1, 10},
		{repeat(0x80, 9, 0x00), 0, 64, 0, 10},
	}
	for _, c := range cases {
		checkS(t, c.b, c.at, c.width, c.v, c.next, nil)
	}
}

// P1.1: ErrArg goes ahead of ErrForm (R1), and nothing is told beside it (R3).
func TestReadWrongArguments(t *testing.T) {
	one := []byte{0x00}
	for _, width := range []int{math.MinInt, -64, -1, 0, 65, 66, 128, math.MaxInt} {
		checkU(t, one, 0, width, 0, 0, api.ErrArg)
		checkS(t, one, 0, width, 0, 0, api.ErrArg)
		checkU(t, []byte{0x80}, 0, width, 0, 0, api.ErrArg)
		checkS(t, nil, 0, width, 0, 0, api.ErrArg)
	}
	for _, at := range []int{math.MinInt, -1, 2, 3, math.MaxInt} {
		checkU(t, one, at, 32, 0, 0, api.ErrArg)
		checkS(t, one, at, 32, 0, 0, api.ErrArg)
	}
	checkU(t, nil, 1, 32, 0, 0, api.ErrArg)
	checkS(t, nil, -1, 32, 0, 0, api.ErrArg)
	for _, width := range []int{1, 2, 63, 64} {
		checkU(t, one, 0, width, 0, 1, nil)
		checkS(t, one, 0, width, 0, 1, nil)
	}
}

// P1.1: at may be the length of b, where no number begins.
func TestReadAtEnds(t *testing.T) {
	b := []byte{0x05, 0x06}
	checkU(t, b, 0, 32, 5, 1, nil)
	checkS(t, b, 0, 32, 5, 1, nil)
	checkU(t, b, 1, 32, 6, 2, nil)
	checkS(t, b, 1, 32, 6, 2, nil)
	checkU(t, b, 2, 32, 0, 0, api.ErrForm)
	checkS(t, b, 2, 32, 0, 0, api.ErrForm)
	checkU(t, b, 3, 32, 0, 0, api.ErrArg)
	checkS(t, b, 3, 32, 0, 0, api.ErrArg)
	for _, none := range [][]byte{nil, {}} {
		checkU(t, none, 0, 32, 0, 0, api.ErrForm)
		checkS(t, none, 0, 32, 0, 0, api.ErrForm)
	}
}

// P1.1: the bytes count up to b's length, whatever memory lies behind it.
func TestReadEndsTooEarly(t *testing.T) {
	whole := repeat(0xff, 9, 0x01)
	for n := range 10 {
		checkU(t, whole[:n], 0, 64, 0, 0, api.ErrForm)
		checkS(t, whole[:n], 0, 64, 0, 0, api.ErrForm)
	}
	checkU(t, []byte{0x01, 0x80}, 1, 64, 0, 0, api.ErrForm)
	checkS(t, []byte{0x01, 0x80}, 1, 64, 0, 0, api.ErrForm)
}

// P1.1: so many bits have at most so many bytes.
func TestReadTooManyBytes(t *testing.T) {
	for width := 1; width <= 64; width++ {
		n := (width + 6) / 7
		checkU(t, repeat(0x80, n-1, 0x00, 0x55), 0, width, 0, n, nil)
		checkS(t, repeat(0x80, n-1, 0x00, 0x55), 0, width, 0, n, nil)
		checkS(t, repeat(0xff, n-1, 0x7f, 0x55), 0, width, -1, n, nil)
		checkU(t, repeat(0x80, n, 0x00), 0, width, 0, 0, api.ErrForm)
		checkS(t, repeat(0x80, n, 0x00), 0, width, 0, 0, api.ErrForm)
		checkS(t, repeat(0xff, n, 0x7f), 0, width, 0, 0, api.ErrForm)
	}
	checkU(t, repeat(0x80, 1000), 0, 64, 0, 0, api.ErrForm)
	checkS(t, repeat(0xff, 1000), 0, 64, 0, 0, api.ErrForm)
}

// P1.1: the last byte's bits that are too many.
func TestReadTooManyBits(t *testing.T) {
	for _, c := range []byte{0x02, 0x03, 0x40, 0x7e, 0x7f} {
		checkU(t, []byte{c}, 0, 1, 0, 0, api.ErrForm)
		checkU(t, repeat(0xff, 9, c), 0, 64, 0, 0, api.ErrForm)
	}
	for _, c := range []byte{0x01, 0x02, 0x3f, 0x40, 0x7e} {
		checkS(t, []byte{c}, 0, 1, 0, 0, api.ErrForm)
		checkS(t, repeat(0xff, 9, c), 0, 64, 0, 0, api.ErrForm)
	}
	for _, c := range []byte{0x10, 0x1f, 0x20, 0x40, 0x4f, 0x7f} {
		checkU(t, repeat(0xff, 4, c), 0, 32, 0, 0, api.ErrForm)
	}
	for _, c := range []byte{0x08, 0x0f, 0x17, 0x37, 0x40, 0x4f, 0x70, 0x77} {
		checkS(t, repeat(0xff, 4, c), 0, 32, 0, 0, api.ErrForm)
	}
	// In a byte ahead of the last one that there may be, no bits are too many.
	checkU(t, repeat(0xff, 3, 0x7f), 0, 32, 1<<28-1, 4, nil)
	checkS(t, repeat(0x80, 3, 0x40), 0, 32, -1<<27, 4, nil)
}

// expected says by large numbers what stands at b's front: how many bytes, and which value; 0 bytes: none.
func expected(b []byte, width int, signed bool) (int, *big.Int) {
	v := new(big.Int)
	for i, c := range b {
		if i == (width+6)/7 {
			return 0, nil
		}
		v.Add(v, new(big.Int).Lsh(big.NewInt(int64(c%128)), uint(7*i)))
		if c >= 128 {
			continue
		}
		from, to := big.NewInt(0), new(big.Int).Lsh(big.NewInt(1), uint(width))
		if signed {
			to.Rsh(to, 1)
			from.Neg(to)
			if c >= 64 {
				v.Sub(v, new(big.Int).Lsh(big.NewInt(1), uint(7*(i+1))))
			}
		}
		if v.Cmp(from) < 0 || v.Cmp(to) >= 0 {
			return 0, nil
		}
		return i + 1, v
	}
	return 0, nil
}

// holdAgainstLarge holds both ways of reading against large numbers, and P1.4's second part with them.
func holdAgainstLarge(t *testing.T, b []byte, width int) {
	t.Helper()
	n, v := expected(b, width, false)
	if n == 0 {
		checkU(t, b, 0, width, 0, 0, api.ErrForm)
	} else {
		checkU(t, b, 0, width, v.Uint64(), n, nil)
		if p := PutU(v.Uint64()); len(p) > n {
			t.Errorf("PutU(%d) = % x, longer than % x", v, p, b[:n])
		}
	}
	n, v = expected(b, width, true)
	if n == 0 {
		checkS(t, b, 0, width, 0, 0, api.ErrForm)
	} else {
		checkS(t, b, 0, width, v.Int64(), n, nil)
		if p := PutS(v.Int64()); len(p) > n {
			t.Errorf("PutS(%d) = % x, longer than % x", v, p, b[:n])
		}
	}
}

// P1.1, P1.4: every last byte, behind up to eleven others, of every number of bits.
func TestReadAgainstLargeNumbers(t *testing.T) {
	for _, front := range []byte{0x80, 0xaa, 0xff} {
		for n := range 12 {
			for last := range 256 {
				b := repeat(front, n, byte(last))
				for width := 1; width <= 64; width++ {
					holdAgainstLarge(t, b, width)
				}
			}
		}
	}
	for first := range 256 {
		for second := range 256 {
			for width := 1; width <= 16; width++ {
				holdAgainstLarge(t, []byte{byte(first), byte(second)}, width)
			}
		}
	}
}

// P1.2
func TestPutWithoutSign(t *testing.T) {
	cases := []struct {
		v    uint64
		want []byte
	}{
		{0, []byte{0x00}},
		{1, []byte{0x01}},
		{63, []byte{0x3f}},
		{64, []byte{0x40}},
		{127, []byte{0x7f}},
		{128, []byte{0x80, 0x01}},
		{16383, []byte{0xff, 0x7f}},
		{16384, []byte{0x80, 0x80, 0x01}},
		{624485, []byte{0xe5, 0x8e, 0x26}},
		{math.MaxUint32, repeat(0xff, 4, 0x0f)},
		{math.MaxInt64, repeat(0xff, 8, 0x7f)},
		{1 << 63, repeat(0x80, 9, 0x01)},
		{math.MaxUint64, repeat(0xff, 9, 0x01)},
	}
	for _, c := range cases {
		if b := PutU(c.v); !bytes.Equal(b, c.want) {
			t.Errorf("PutU(%d) = % x; want % x", c.v, b, c.want)
		}
	}
}

// P1.2
func TestPutWithSign(t *testing.T) {
	cases := []struct {
		v    int64
		want []byte
	}{
		{0, []byte{0x00}},
		{1, []byte{0x01}},
		{63, []byte{0x3f}},
		{64, []byte{0xc0, 0x00}},
		{127, []byte{0xff, 0x00}},
		{128, []byte{0x80, 0x01}},
		{8191, []byte{0xff, 0x3f}},
		{8192, []byte{0x80, 0xc0, 0x00}},
		{-1, []byte{0x7f}},
		{-64, []byte{0x40}},
		{-65, []byte{0xbf, 0x7f}},
		{-8192, []byte{0x80, 0x40}},
		{-8193, []byte{0xff, 0xbf, 0x7f}},
		{-123456, []byte{0xc0, 0xbb, 0x78}},
		{math.MaxInt32, repeat(0xff, 4, 0x07)},
		{math.MinInt32, repeat(0x80, 4, 0x78)},
		{math.MaxInt64, repeat(0xff, 9, 0x00)},
		{math.MinInt64, repeat(0x80, 9, 0x7f)},
	}
	for _, c := range cases {
		if b := PutS(c.v); !bytes.Equal(b, c.want) {
			t.Errorf("PutS(%d) = % x; want % x", c.v, b, c.want)
		}
	}
}

// P1.2
func TestPad(t *testing.T) {
	cases := []struct {
		v    uint64
		want []byte
	}{
		{0, repeat(0x80, 4, 0x00)},
		{5, []byte{0x85, 0x80, 0x80, 0x80, 0x00}},
		{128, []byte{0x80, 0x81, 0x80, 0x80, 0x00}},
		{624485, []byte{0xe5, 0x8e, 0xa6, 0x80, 0x00}},
		{1 << 31, repeat(0x80, 4, 0x08)},
		{math.MaxUint32, repeat(0xff, 4, 0x0f)},
	}
	for _, c := range cases {
		if b, err := Pad(c.v); err != nil || !bytes.Equal(b, c.want) {
			t.Errorf("Pad(%d) = % x, %v; want % x", c.v, b, err, c.want)
		}
	}
	for _, v := range []uint64{1 << 32, 1<<32 + 1, 1<<33 - 1, 1 << 35, 1 << 63, math.MaxUint64} {
		if b, err := Pad(v); err != api.ErrArg || len(b) != 0 {
			t.Errorf("Pad(%d) = % x, %v; want ErrArg", v, b, err)
		}
	}
}

// P1.3, R2
func TestNothingHandedInChanges(t *testing.T) {
	for _, b := range [][]byte{{0xe5, 0x8e, 0x26, 0xff}, repeat(0xff, 9, 0x7f), {0x80, 0x80}} {
		was := slices.Clone(b)
		U(b, 0, 64)
		S(b, 0, 64)
		U(b, 1, 7)
		S(b, 1, 7)
		if !bytes.Equal(b, was) {
			t.Errorf("% x became % x", was, b)
		}
	}
}

// P1.3, R2: what one call told is nothing to the next one.
func TestAnswersAreNewMemory(t *testing.T) {
	pad := func(v uint64) []byte {
		b, err := Pad(v)
		if err != nil {
			t.Fatal(err)
		}
		return b
	}
	calls := []func() []byte{
		func() []byte { return PutU(0) },
		func() []byte { return PutU(math.MaxUint64) },
		func() []byte { return PutS(-1) },
		func() []byte { return PutS(math.MinInt64) },
		func() []byte { return pad(0) },
		func() []byte { return pad(math.MaxUint32) },
	}
	for i, call := range calls {
		first := call()
		want := slices.Clone(first)
		second := call()
		spoil(first)
		if third := call(); !bytes.Equal(second, want) || !bytes.Equal(third, want) {
			t.Errorf("call %d: % x and % x; want % x", i, second, third, want)
		}
	}
}

// spoil changes all of a slice's memory, up to its capacity.
func spoil(b []byte) {
	b = b[:cap(b)]
	for i := range b {
		b[i] ^= 0xff
	}
}

// numbers are those about each power of two, and some without a pattern.
func numbers() []uint64 {
	l := []uint64{0, math.MaxUint64}
	for i := range 64 {
		p := uint64(1) << i
		l = append(l, p-1, p, p+1, -p, -p-1, -p+1)
	}
	v := uint64(1)
	for range 2000 {
		v = v*6364136223846793005 + 1442695040888963407
		l = append(l, v, v>>(v>>58))
	}
	return l
}

// within puts bytes between others, so that reading must begin and end where they do.
func within(b []byte) []byte {
	return slices.Concat([]byte{0xff, 0xff}, b, []byte{0xff, 0x00})
}

// P1.4
func TestPutIsReadAsItWas(t *testing.T) {
	for _, v := range numbers() {
		b := PutU(v)
		need := max(bits.Len64(v), 1)
		for width := 1; width <= 64; width++ {
			if width < need {
				checkU(t, within(b), 2, width, 0, 0, api.ErrForm)
				continue
			}
			checkU(t, within(b), 2, width, v, 2+len(b), nil)
		}
		s := int64(v)
		b = PutS(s)
		need = bits.Len64(uint64(s^s>>63)) + 1
		for width := 1; width <= 64; width++ {
			if width < need {
				checkS(t, within(b), 2, width, 0, 0, api.ErrForm)
				continue
			}
			checkS(t, within(b), 2, width, s, 2+len(b), nil)
		}
	}
}

// P1.4: one byte fewer isn't enough, so what was put is as short as can be.
func TestPutIsShortest(t *testing.T) {
	for _, v := range numbers() {
		if n := len(PutU(v)); n > 1 && v>>(7*(n-1)) == 0 {
			t.Errorf("PutU(%d) has %d bytes", v, n)
		}
		s := int64(v)
		if n := len(PutS(s)); n > 1 && s>>(7*(n-1)-1) == s>>63 {
			t.Errorf("PutS(%d) has %d bytes", s, n)
		}
	}
}

// P1.4: five bytes are too many for 28 bits, even if the number would fit.
func TestPadIsReadAsItWas(t *testing.T) {
	for _, v := range numbers() {
		v &= math.MaxUint32
		b, err := Pad(v)
		if err != nil || len(b) != 5 {
			t.Fatalf("Pad(%d) = % x, %v", v, b, err)
		}
		for width := 1; width <= 64; width++ {
			if width < max(bits.Len64(v), 29) {
				checkU(t, within(b), 2, width, 0, 0, api.ErrForm)
				continue
			}
			checkU(t, within(b), 2, width, v, 7, nil)
		}
	}
}
