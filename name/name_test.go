package name

import (
	"bytes"
	"errors"
	"math"
	"slices"
	"testing"

	"grommet/api"
)

// written is c in bits, as the chapter says it; nil: c is no character.
func written(c int) []byte {
	switch {
	case c < 0 || c > 0x10ffff || c >= 0xd800 && c <= 0xdfff:
		return nil
	case c < 0x80:
		return []byte{byte(c)}
	case c < 0x800:
		return []byte{byte(0xc0 | c>>6), byte(0x80 | c&0x3f)}
	case c < 0x10000:
		return []byte{byte(0xe0 | c>>12), byte(0x80 | c>>6&0x3f), byte(0x80 | c&0x3f)}
	}
	return []byte{byte(0xf0 | c>>18), byte(0x80 | c>>12&0x3f), byte(0x80 | c>>6&0x3f), byte(0x80 | c&0x3f)}
}

// front is the character that is written at b's front; false: none is. It tries each length that a character may have.
func front(b []byte) (int, bool) {
	for n := 1; n <= 4 && n <= len(b); n++ {
		c := int(b[0])
		if n > 1 {
			c &= 0xff >> (n + 1)
		}
		for _, x := range b[1:n] {
			c = c<<6 | int(x&0x3f)
		}
		if bytes.Equal(written(c), b[:n]) {
			return c, true
		}
	}
	return 0, false
}

// expected goes through all of b from the front; at is the place of the fault, or -1.
func expected(b []byte) (l []int, at int) {
	for at < len(b) {
		c, ok := front(b[at:])
		if !ok {
			return nil, at
		}
		l = append(l, c)
		at += len(written(c))
	}
	return l, -1
}

// faultAt is the place that an error tells, -1 without one; it must be a Spot whose Err is ErrForm itself.
func faultAt(t *testing.T, err error) int {
	t.Helper()
	if err == nil {
		return -1
	}
	s, ok := err.(*api.Spot)
	if !ok || s.Err != api.ErrForm {
		t.Fatalf("%T %v is no Spot of ErrForm", err, err)
	}
	return s.At
}

// check asks for exactly these characters, or for a fault at this place, of both calls.
func check(t *testing.T, b []byte, want []int, at int) {
	t.Helper()
	if got := faultAt(t, Check(b)); got != at {
		t.Errorf("Check(% x) tells %d; want %d", b, got, at)
	}
	l, err := Chars(b)
	if got := faultAt(t, err); got != at || !slices.Equal(l, want) {
		t.Errorf("Chars(% x) = %x, at %d; want %x, at %d", b, l, got, want, at)
	}
}

// hold holds both calls against expected.
func hold(t *testing.T, b []byte) {
	t.Helper()
	want, at := expected(b)
	check(t, b, want, at)
}

func TestExamples(t *testing.T) {
	check(t, []byte{0xe2, 0x82, 0xac}, []int{0x20ac}, -1)
	check(t, []byte{0xc0, 0x80}, nil, 0)
}

// P2.1
func TestReadTexts(t *testing.T) {
	check(t, nil, nil, -1)
	check(t, []byte{}, nil, -1)
	cases := []struct {
		text string
		want []int
	}{
		{"abc", []int{0x61, 0x62, 0x63}},
		{"\x00\x7f", []int{0, 0x7f}},
		{"\xc2\x80\xdf\xbf", []int{0x80, 0x7ff}},
		{"\xe0\xa0\x80\xef\xbf\xbf", []int{0x800, 0xffff}},
		{"\xed\x9f\xbf\xee\x80\x80", []int{0xd7ff, 0xe000}},
		{"\xf0\x90\x80\x80\xf4\x8f\xbf\xbf", []int{0x10000, 0x10ffff}},
		{"a\xc3\xa9\xe2\x82\xac\xf0\x9f\x98\x80b", []int{0x61, 0xe9, 0x20ac, 0x1f600, 0x62}},
		// A character like any other, though it often stands for a fault.
		{"\xef\xbf\xbd", []int{0xfffd}},
		{"a\xef\xbf\xbdb", []int{0x61, 0xfffd, 0x62}},
		// So is the mark of a file's start.
		{"\xef\xbb\xbfa", []int{0xfeff, 0x61}},
	}
	for _, c := range cases {
		check(t, []byte(c.text), c.want, -1)
	}
}

// P2.1: bytes at which no character is written, with a character and bytes that would do ahead of and behind them.
func TestReadFaults(t *testing.T) {
	faults := []string{
		"\x80", "\xbf", "\xfe", "\xff", "\xf8\x88\x80\x80\x80", "\xfc\x84\x80\x80\x80\x80",
		// More bytes than the number takes.
		"\xc0\x80", "\xc1\xbf", "\xe0\x80\x80", "\xe0\x9f\xbf", "\xf0\x80\x80\x80", "\xf0\x8f\xbf\xbf",
		// No characters.
		"\xed\xa0\x80", "\xed\xaf\xbf", "\xed\xb0\x80", "\xed\xbf\xbf", "\xed\xa0\x80\xed\xb0\x80",
		"\xf4\x90\x80\x80", "\xf5\x80\x80\x80", "\xf7\xbf\xbf\xbf",
		// Too few bytes.
		"\xc2", "\xdf", "\xe2", "\xe2\x82", "\xf0", "\xf0\x9f", "\xf0\x9f\x98",
		// Another byte where one more must follow.
		"\xc2\x00", "\xc2\x7f", "\xc2\xc0", "\xe2a\xac", "\xe2\x82a", "\xe2\x82\xc0", "\xf0a\x98\x80", "\xf0\x9fa\x80", "\xf0\x9f\x98a", "\xf0\x9f\x98\xff",
	}
	for _, f := range faults {
		check(t, []byte(f), nil, 0)
		check(t, []byte(f+"a"), nil, 0)
		check(t, []byte("ab"+f), nil, 2)
		check(t, []byte("\xe2\x82\xac"+f+"a\x80"), nil, 3)
		check(t, []byte("\xf0\x9f\x98\x80\xc3\xa9"+f+"\xff"), nil, 6)
		check(t, []byte("\xef\xbf\xbd"+f), nil, 3)
	}
}

// P2.1: the bytes count up to b's length, whatever memory lies behind it.
func TestReadEndsTooEarly(t *testing.T) {
	whole := []byte("a\xf0\x9f\x98\x80")
	for n := 2; n < len(whole); n++ {
		check(t, whole[:n], nil, 1)
	}
	check(t, whole[:1], []int{0x61}, -1)
}

// R3: a slice that was being filled isn't told beside an error.
func TestNothingBesideAnError(t *testing.T) {
	if l, err := Chars([]byte("abc\xff")); err == nil || len(l) != 0 {
		t.Errorf("Chars = %x, %v", l, err)
	}
	if b, err := Put(0xd800); err == nil || len(b) != 0 {
		t.Errorf("Put = % x, %v", b, err)
	}
}

// P2.1: all of one and two bytes, and all that may stand at three bytes' front.
func TestReadAllShort(t *testing.T) {
	for first := range 256 {
		hold(t, []byte{byte(first)})
		for second := range 256 {
			hold(t, []byte{byte(first), byte(second)})
			for _, third := range edges() {
				hold(t, []byte{byte(first), byte(second), third})
			}
		}
	}
}

// P2.1: four and five bytes of those about each border.
func TestReadLonger(t *testing.T) {
	for first := range 256 {
		for _, second := range edges() {
			for _, third := range edges() {
				for _, fourth := range edges() {
					b := []byte{byte(first), second, third, fourth}
					hold(t, b)
					hold(t, append([]byte{0x61}, b...))
				}
			}
		}
	}
}

// edges are the bytes at which what may follow changes.
func edges() []byte {
	return []byte{0x00, 0x7f, 0x80, 0x8f, 0x90, 0x9f, 0xa0, 0xbf, 0xc0, 0xc2, 0xe0, 0xff}
}

// P2.1: long texts without a pattern, most of them at fault somewhere.
func TestReadMixed(t *testing.T) {
	v := uint64(1)
	next := func(n int) int {
		v = v*6364136223846793005 + 1442695040888963407
		return int(v>>33) % n
	}
	borders := []int{0x80, 0x800, 0x10000, 0x110000}
	for range 5000 {
		var b []byte
		for range next(40) {
			b = append(b, written(next(borders[next(4)]))...)
		}
		hold(t, b)
		if len(b) > 0 {
			b[next(len(b))] = byte(next(256))
			hold(t, b)
			hold(t, b[:next(len(b))])
		}
	}
}

// P2.2
func TestPut(t *testing.T) {
	cases := []struct {
		c    int
		want string
	}{
		{0, "\x00"}, {0x61, "a"}, {0x7f, "\x7f"},
		{0x80, "\xc2\x80"}, {0xe9, "\xc3\xa9"}, {0x7ff, "\xdf\xbf"},
		{0x800, "\xe0\xa0\x80"}, {0x20ac, "\xe2\x82\xac"}, {0xd7ff, "\xed\x9f\xbf"},
		{0xe000, "\xee\x80\x80"}, {0xfffd, "\xef\xbf\xbd"}, {0xffff, "\xef\xbf\xbf"},
		{0x10000, "\xf0\x90\x80\x80"}, {0x1f600, "\xf0\x9f\x98\x80"}, {0x10ffff, "\xf4\x8f\xbf\xbf"},
	}
	for _, c := range cases {
		if b, err := Put(c.c); err != nil || string(b) != c.want {
			t.Errorf("Put(%x) = % x, %v; want % x", c.c, b, err, c.want)
		}
	}
}

// P2.2: ErrArg itself, also of numbers whose lower bits would be a character.
func TestPutNone(t *testing.T) {
	none := []int{-1, -2, -0x61, math.MinInt32, math.MinInt, 0xd800, 0xdabc, 0xdbff, 0xdc00, 0xdfff,
		0x110000, 0x110061, 0x1fffff, math.MaxInt32, math.MaxInt}
	for _, shift := range []uint{31, 32, 33, 63} {
		none = append(none, int(uint64(1)<<shift|0x61))
	}
	for _, c := range none {
		b, err := Put(c)
		if err != api.ErrArg || len(b) != 0 {
			t.Errorf("Put(%x) = % x, %v; want ErrArg", c, b, err)
		}
	}
}

// P2.2, P2.4: every number about which there is a question at all.
func TestAllCharacters(t *testing.T) {
	for c := -0x100; c < 0x120000; c++ {
		want := written(c)
		b, err := Put(c)
		if want == nil {
			if err != api.ErrArg || len(b) != 0 {
				t.Fatalf("Put(%x) = % x, %v; want ErrArg", c, b, err)
			}
			continue
		}
		if err != nil || !bytes.Equal(b, want) {
			t.Fatalf("Put(%x) = % x, %v; want % x", c, b, err, want)
		}
		if l, err := Chars(b); err != nil || len(l) != 1 || l[0] != c {
			t.Fatalf("Chars(% x) = %x, %v; want %x", b, l, err, c)
		}
		if err := Check(b); err != nil {
			t.Fatalf("Check(% x) = %v", b, err)
		}
	}
}

// P2.4: what was put one behind the other is read as it was, and the other way round.
func TestReadAndPutAgain(t *testing.T) {
	var all []int
	var whole []byte
	for c := 0; c <= 0x10ffff; c += 97 {
		if c >= 0xd800 && c <= 0xdfff {
			continue
		}
		b, err := Put(c)
		if err != nil {
			t.Fatal(err)
		}
		all = append(all, c)
		whole = append(whole, b...)
	}
	check(t, whole, all, -1)
	l, err := Chars(whole)
	if err != nil {
		t.Fatal(err)
	}
	var again []byte
	for _, c := range l {
		b, err := Put(c)
		if err != nil {
			t.Fatal(err)
		}
		again = append(again, b...)
	}
	if !bytes.Equal(again, whole) {
		t.Error("what was read and put again is other bytes")
	}
}

// P2.3, R2
func TestNothingHandedInChanges(t *testing.T) {
	for _, text := range []string{"", "abc", "a\xc3\xa9\xe2\x82\xac\xf0\x9f\x98\x80", "ab\xff", "\xe2\x82"} {
		b := []byte(text)
		Check(b)
		Chars(b)
		if string(b) != text {
			t.Errorf("% x became % x", text, b)
		}
	}
}

// P2.3, R2: what one call told is nothing to the next one, nor to what was handed in.
func TestAnswersAreNewMemory(t *testing.T) {
	for _, c := range []int{0, 0x61, 0xe9, 0x20ac, 0x1f600} {
		first, _ := Put(c)
		second, _ := Put(c)
		for i := range first[:cap(first)] {
			first[:cap(first)][i] ^= 0xff
		}
		third, _ := Put(c)
		if want := written(c); !bytes.Equal(second, want) || !bytes.Equal(third, want) {
			t.Errorf("Put(%x) = % x, % x; want % x", c, second, third, want)
		}
	}
	b := []byte("a\xe2\x82\xacb")
	want := []int{0x61, 0x20ac, 0x62}
	first, _ := Chars(b)
	second, _ := Chars(b)
	clear(first[:cap(first)])
	clear(b)
	third, _ := Chars([]byte("a\xe2\x82\xacb"))
	if !slices.Equal(second, want) || !slices.Equal(third, want) {
		t.Errorf("Chars = %x, %x; want %x", second, third, want)
	}
	_, one := Chars([]byte("\xff"))
	one.(*api.Spot).At = 7
	if _, two := Chars([]byte("\xff")); faultAt(t, two) != 0 {
		t.Errorf("two faults share a Spot: %v", two)
	}
}

// An error is found by errors.Is and errors.As.
func TestErrorsAreFound(t *testing.T) {
	var s *api.Spot
	err := Check([]byte("ab\xc0\x80"))
	if !errors.Is(err, api.ErrForm) || !errors.As(err, &s) || s.At != 2 {
		t.Error(err)
	}
	if _, err := Put(-1); !errors.Is(err, api.ErrArg) || errors.As(err, &s) {
		t.Error(err)
	}
}
