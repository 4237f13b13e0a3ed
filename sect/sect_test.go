package sect_test

import (
	"bytes"
	"encoding/hex"
	"fmt"
	"math"
	"math/rand"
	"slices"
	"strings"
	"testing"

	"grommet/api"
	"grommet/sect"
)

const headText = "00 61 73 6d 01 00 00 00"

// unhex reads bytes; spaces are for the eye.
func unhex(s string) []byte {
	b, err := hex.DecodeString(strings.ReplaceAll(s, " ", ""))
	if err != nil {
		panic(err)
	}
	return b
}

// module is the head, and these bytes behind it.
func module(parts ...[]byte) []byte {
	return slices.Concat(unhex(headText), slices.Concat(parts...))
}

func section(id int, b ...byte) api.Section { return api.Section{Id: id, Bytes: b} }

// same takes nil and empty bytes for the same, as the document does.
func same(a, b api.Section) bool {
	return a.Id == b.Id && a.At == b.At && bytes.Equal(a.Bytes, b.Bytes)
}

// show tells as much of sections as helps the eye.
func show(l []api.Section) string {
	var parts []string
	for _, s := range l[:min(len(l), 20)] {
		parts = append(parts, fmt.Sprintf("%d at %d: %.20x", s.Id, s.At, s.Bytes))
	}
	return fmt.Sprint(len(l), parts)
}

func checkSplit(t *testing.T, b []byte, want ...api.Section) {
	t.Helper()
	l, err := sect.Split(b)
	if err != nil || !slices.EqualFunc(l, want, same) {
		t.Errorf("Split(%.99x) = %v, %v; not %v", b, show(l), err, show(want))
	}
}

// checkFault holds that it is a Spot at that place, and that nothing else is told.
func checkFault(t *testing.T, b []byte, want api.Code, place int) {
	t.Helper()
	l, err := sect.Split(b)
	s, ok := err.(*api.Spot)
	if !ok || s.Err != error(want) || s.At != place || len(l) != 0 {
		t.Errorf("Split(%.99x) = %v, %v; not error %d at %d", b, show(l), err, want, place)
	}
}

func checkJoin(t *testing.T, l []api.Section, want []byte) {
	t.Helper()
	if b, err := sect.Join(l); err != nil || !bytes.Equal(b, want) {
		t.Errorf("Join(%v) = %.99x, %v; not %.99x", show(l), b, err, want)
	}
}

func checkRefused(t *testing.T, l []api.Section) {
	t.Helper()
	if b, err := sect.Join(l); err != error(api.ErrArg) || len(b) != 0 {
		t.Errorf("Join(%v) = %.99x, %v; not ErrArg", show(l), b, err)
	}
}

// good are sections as they are joined, and split with At.
var good = []struct {
	bytes string
	l     []api.Section
}{
	{"", nil},
	{"00 00", []api.Section{{Id: 0, At: 10}}},
	{"01 00", []api.Section{{Id: 1, At: 10}}},
	{"0b 00", []api.Section{{Id: 11, At: 10}}},
	{"01 01 07 00 02 08 09 03 00", []api.Section{{Id: 1, At: 10, Bytes: []byte{7}}, {Id: 0, At: 13, Bytes: []byte{8, 9}}, {Id: 3, At: 17}}},
	{"00 00 00 00 02 00 00 01 ff 00 00", []api.Section{{At: 10}, {At: 12}, {Id: 2, At: 14}, {At: 16, Bytes: []byte{0xff}}, {At: 19}}},
	{"05 03 0c 05 05 0b 02 80 80", []api.Section{{Id: 5, At: 10, Bytes: []byte{0x0c, 5, 5}}, {Id: 11, At: 15, Bytes: []byte{0x80, 0x80}}}},
	{"01 00 02 00 03 00 04 00 05 00 06 00 07 00 08 00 09 00 0a 00 0b 00", []api.Section{{Id: 1, At: 10}, {Id: 2, At: 12}, {Id: 3, At: 14}, {Id: 4, At: 16}, {Id: 5, At: 18},
		{Id: 6, At: 20}, {Id: 7, At: 22}, {Id: 8, At: 24}, {Id: 9, At: 26}, {Id: 10, At: 28}, {Id: 11, At: 30}}},
	{"08 08 00 61 73 6d 01 00 00 00 00 01 00", []api.Section{{Id: 8, At: 10, Bytes: []byte("\x00asm\x01\x00\x00\x00")}, {At: 20, Bytes: []byte{0}}}},
}

// P7.1, P7.2: what is split, and joined, is as the chapter has it.
func TestGood(t *testing.T) {
	checkJoin(t, nil, unhex(headText))
	checkJoin(t, []api.Section{}, unhex(headText))
	for _, g := range good {
		b := module(unhex(g.bytes))
		checkSplit(t, b, g.l...)
		checkJoin(t, g.l, b)
	}
}

// P7.1: what doesn't begin so is at fault at 0, whatever stands behind it.
func TestSplitHead(t *testing.T) {
	head := unhex(headText)
	for _, behind := range []string{"", "01 00", "0c", "01 05", headText} {
		rest := unhex(behind)
		for i := range head {
			for c := range 0x100 {
				b := slices.Concat(head, rest)
				if b[i] == byte(c) {
					continue
				}
				b[i] = byte(c)
				checkFault(t, b, api.ErrForm, 0)
			}
		}
		checkFault(t, slices.Concat([]byte{0}, head, rest), api.ErrForm, 0)
		checkFault(t, slices.Concat(head[1:], rest), api.ErrForm, 0)
	}
	checkFault(t, nil, api.ErrForm, 0)
	for n := range head {
		// The whole lies behind the end still, where it isn't to be read.
		checkFault(t, head[:n], api.ErrForm, 0)
	}
}

// P7.1: an Id is a byte, 0 to 11; another one is at fault there, ahead of what stands behind it.
func TestSplitIds(t *testing.T) {
	for c := range 0x100 {
		for _, ahead := range []string{"", "00 00", "00 02 01 01", "00 01 0b 00 00"} {
			front := module(unhex(ahead))
			b := append(slices.Clone(front), byte(c))
			if c > 11 {
				checkFault(t, b, api.ErrForm, len(front))
				checkFault(t, append(b, 0x00), api.ErrForm, len(front))
				checkFault(t, append(b, 0x01), api.ErrForm, len(front))
				checkFault(t, append(b, 0x80), api.ErrForm, len(front))
				continue
			}
			l, err := sect.Split(append(b, 0x01, 0x55))
			if err != nil || len(l) == 0 || !same(l[len(l)-1], api.Section{Id: c, At: len(b) + 1, Bytes: []byte{0x55}}) {
				t.Errorf("Id %d behind %q: %v, %v", c, ahead, l, err)
			}
			checkFault(t, b, api.ErrForm, len(b))
		}
	}
}

// P7.1, P7.2: Ids other than 0 rise, whatever stands between them.
func TestIdsRise(t *testing.T) {
	for first := range 13 {
		for second := range 13 {
			for _, between := range []int{0, 1, 3} {
				l := []api.Section{section(first, 1, 2)}
				for range between {
					l = append(l, section(0, 3))
				}
				l = append(l, section(second))
				front := module([]byte{byte(first), 2, 1, 2}, bytes.Repeat([]byte{0, 1, 3}, between))
				b := append(slices.Clone(front), byte(second), 0)
				switch {
				case first == 12:
					checkFault(t, b, api.ErrForm, 8)
					checkRefused(t, l)
				case second == 12 || second != 0 && second <= first:
					checkFault(t, b, api.ErrForm, len(front))
					// How many bytes there are is looked at behind it.
					checkFault(t, append(front, byte(second)), api.ErrForm, len(front))
					checkFault(t, append(front, byte(second), 0x80), api.ErrForm, len(front))
					checkFault(t, append(front, byte(second), 0x01), api.ErrForm, len(front))
					checkRefused(t, l)
				default:
					checkJoin(t, l, b)
					if got, err := sect.Split(b); err != nil || len(got) != len(l) || got[len(l)-1].Id != second {
						t.Errorf("Split(%x) = %v, %v", b, got, err)
					}
				}
			}
		}
	}
	// The highest one ahead counts, not the last one.
	checkFault(t, module(unhex("01 00 05 00 00 00 03 00")), api.ErrForm, 14)
	checkFault(t, module(unhex("01 00 05 00 03 00 05 00")), api.ErrForm, 12)
	checkFault(t, module(unhex("0b 00 00 00 0a 00")), api.ErrForm, 12)
}

// P7.1: how many bytes there are may be told in more bytes than it needs, up to five.
func TestSplitSizes(t *testing.T) {
	for _, n := range []int{0, 1, 2, 127, 128, 129, 300, 16383, 16384, 20000, 1 << 21} {
		part := bytes.Repeat([]byte{0x0c}, n)
		for width := 1; width <= 5; width++ {
			if n>>(7*width) != 0 {
				continue
			}
			size := make([]byte, width)
			for i := range size {
				size[i] = byte(n>>(7*i))&0x7f | 0x80
			}
			size[width-1] &= 0x7f
			b := module([]byte{4}, size, part)
			checkSplit(t, b, api.Section{Id: 4, At: 9 + width, Bytes: part})
			checkSplit(t, append(b, 0, 1, 7), api.Section{Id: 4, At: 9 + width, Bytes: part}, api.Section{At: len(b) + 2, Bytes: []byte{7}})
			checkFault(t, append(b, 4, 0), api.ErrForm, len(b))
			if n > 0 {
				checkFault(t, b[:len(b)-1], api.ErrForm, 9)
			}
		}
	}
}

// P7.1: where that is no number, or more than there are, the fault stands at it.
func TestSplitSizesAtFault(t *testing.T) {
	for _, ahead := range []string{"", "00 00", "01 02 01 01", "00 01 05 02 00"} {
		front := module(unhex(ahead), []byte{0x03})
		for _, size := range []string{
			"", "80", "ff ff ff ff", "80 80 80 80 80", // they end too early
			"80 80 80 80 80 00", "ff ff ff ff ff 00", "81 80 80 80 80 80 80 80 80 00", // too many bytes
			"80 80 80 80 10", "80 80 80 80 40", "ff ff ff ff 1f", "ff ff ff ff 7f", // too many bits
			"01", "7f", "80 01", "02 00", "03 00 00", "05 04 00 02 00", "81 80 80 80 00", // more than there are
			"ff ff ff ff 07 00", "80 80 80 80 08 00", "ff ff ff ff 0f", "ff ff ff ff 0f 00", "ff ff ff ff 0e 00 00",
		} {
			checkFault(t, slices.Concat(front, unhex(size)), api.ErrForm, len(front))
		}
		for n := 1; n < 128; n++ {
			part := make([]byte, n)
			// More lies behind the end still, where it isn't to be read.
			b := slices.Concat(front, []byte{byte(n)}, part, part)
			checkFault(t, b[:len(front)+n], api.ErrForm, len(front))
			if l, err := sect.Split(b[:len(front)+1+n]); err != nil || len(l) == 0 || len(l[len(l)-1].Bytes) != n {
				t.Errorf("%d bytes: %v, %v", n, l, err)
			}
		}
	}
}

// P7.1: of several faults the one that stands first.
func TestSplitFirstFault(t *testing.T) {
	for _, f := range []struct {
		bytes string
		place int
	}{
		{"05 00 05 00 0c 00", 10},
		{"05 00 0c 00 05 00", 10},
		{"05 09 05 00", 9},
		{"05 00 06 80", 11},
		{"05 80 80 80 80 80 00 0c 00", 9},
		{"0c 00 05 80", 8},
		{"ff ff ff ff ff ff", 8},
	} {
		checkFault(t, module(unhex(f.bytes)), api.ErrForm, f.place)
	}
}

// P7.1: 128 sections are split, and one more is too many at its Id.
func TestSplitMany(t *testing.T) {
	kinds := unhex("01 00 02 00 03 00 04 00 05 00 06 00 07 00 08 00 09 00 0a 00")
	for _, full := range [][]byte{
		module(bytes.Repeat([]byte{0, 0}, 128)),
		module(bytes.Repeat([]byte{0, 2, 0, 0}, 128)),
		module(kinds, bytes.Repeat([]byte{0, 0}, 118)),
		module(bytes.Repeat([]byte{0, 1, 7}, 118), kinds),
		module([]byte{10, 1, 0}, bytes.Repeat([]byte{0, 0}, 127)),
	} {
		l, err := sect.Split(full)
		if err != nil || len(l) != 128 {
			t.Fatal(len(l), err)
		}
		for _, f := range []struct {
			bytes string
			code  api.Code
		}{
			// How many bytes there are stands behind the Id that is one too many.
			{"00 00", api.ErrLarge}, {"0b 00", api.ErrLarge}, {"00 00 00 00", api.ErrLarge}, {"00 00 0c", api.ErrLarge},
			{"00", api.ErrLarge}, {"0b", api.ErrLarge}, {"00 01", api.ErrLarge}, {"0b 80", api.ErrLarge}, {"00 ff ff ff ff ff", api.ErrLarge},
			// At one place what the promise names first.
			{"0c", api.ErrForm}, {"0c 00", api.ErrForm}, {"ff", api.ErrForm},
		} {
			checkFault(t, slices.Concat(full, unhex(f.bytes)), f.code, len(full))
		}
	}
	last := module([]byte{11, 0}, bytes.Repeat([]byte{0, 0}, 127))
	checkFault(t, append(last, 11, 0), api.ErrForm, len(last))
	checkFault(t, append(last, 1, 0), api.ErrForm, len(last))
	checkFault(t, append(last, 0, 0), api.ErrLarge, len(last))
	// A fault ahead of the one too many comes first, and the 128th may be at fault still.
	checkFault(t, module([]byte{12, 0}, bytes.Repeat([]byte{0, 0}, 200)), api.ErrForm, 8)
	checkFault(t, module(bytes.Repeat([]byte{0, 0}, 127), []byte{12}), api.ErrForm, 8+254)
	checkFault(t, module(bytes.Repeat([]byte{0, 0}, 127), []byte{0}), api.ErrForm, 8+255)
	checkFault(t, module(bytes.Repeat([]byte{0, 0}, 100000)), api.ErrLarge, 8+256)
}

// P7.2: more sections than there may be, and Ids that aren't so.
func TestJoinRefused(t *testing.T) {
	for _, id := range []int{-1, -11, 12, 13, 127, 128, 255, 256, 257, 267, -255, -256, 1 << 32, 1<<32 + 1, math.MinInt, math.MaxInt} {
		s := section(id, 1)
		for _, l := range [][]api.Section{{s}, {section(0), s}, {s, section(0)}, {section(11), s}, {section(1), section(0), s}, {s, section(11)}} {
			checkRefused(t, l)
		}
	}
	for _, ids := range [][]int{{1, 1}, {2, 1}, {11, 10}, {11, 11}, {1, 0, 1}, {5, 0, 0, 4}, {1, 5, 3}, {1, 5, 0, 3}, {1, 2, 3, 4, 5, 6, 7, 8, 9, 10, 11, 1}} {
		var l []api.Section
		for _, id := range ids {
			l = append(l, section(id))
		}
		checkRefused(t, l)
	}
	for _, n := range []int{129, 130, 256, 257, 5000} {
		checkRefused(t, make([]api.Section, n))
		l := make([]api.Section, n)
		l[n-1].Id = 1
		checkRefused(t, l)
	}
	checkJoin(t, make([]api.Section, 128), module(bytes.Repeat([]byte{0, 0}, 128)))
	l := make([]api.Section, 128)
	l[127] = section(11, 5)
	checkJoin(t, l, module(bytes.Repeat([]byte{0, 0}, 127), []byte{11, 1, 5}))
}

// P7.2: each count in as few bytes as can be; At isn't looked at.
func TestJoinSizes(t *testing.T) {
	for _, c := range []struct {
		n    int
		size string
	}{
		{0, "00"}, {1, "01"}, {63, "3f"}, {64, "40"}, {127, "7f"}, {128, "80 01"}, {255, "ff 01"}, {300, "ac 02"}, {16383, "ff 7f"}, {16384, "80 80 01"}, {2097151, "ff ff 7f"}, {2097152, "80 80 80 01"},
	} {
		part := bytes.Repeat([]byte{0x0b}, c.n)
		b := module([]byte{7}, unhex(c.size), part)
		checkJoin(t, []api.Section{section(7, part...)}, b)
		checkJoin(t, []api.Section{section(7, part...), section(0), section(9, 1)}, append(b, 0, 0, 9, 1, 1))
	}
	for _, at := range []int{0, 1, -1, 10, math.MinInt, math.MaxInt} {
		checkJoin(t, []api.Section{{Id: 3, At: at, Bytes: []byte{5}}, {At: at}}, module(unhex("03 01 05 00 00")))
	}
	checkJoin(t, []api.Section{{Id: 3, Bytes: nil}, {Bytes: []byte{}}}, module(unhex("03 00 00 00")))
}

// fault is one of those that a section has, and how late the promise names it.
type fault struct {
	place, named int
	code         api.Code
}

// first is the fault that stands first, at one place the one that is named first.
func first(l []fault) fault {
	return slices.MinFunc(l, func(a, b fault) int {
		if a.place != b.place {
			return a.place - b.place
		}
		return a.named - b.named
	})
}

// scan is the chapter's reading once more: of each section all its faults are gathered, and the first one counts.
func scan(b []byte) (l []api.Section, found []fault) {
	if !bytes.HasPrefix(b, unhex(headText)) {
		return nil, []fault{{0, 0, api.ErrForm}}
	}
	seen := map[byte]bool{}
	for at := 8; at < len(b); {
		id := b[at]
		if id > 11 {
			found = append(found, fault{at, 1, api.ErrForm})
		}
		for other := id; id != 0 && other <= 11; other++ {
			if seen[other] {
				found = append(found, fault{at, 2, api.ErrForm})
			}
		}
		seen[id] = true
		n, width := number(b[at+1:])
		start := at + 1 + width
		if width == 0 || n > len(b)-start {
			found = append(found, fault{at + 1, 3, api.ErrForm})
		}
		if len(l) == 128 {
			found = append(found, fault{at, 4, api.ErrLarge})
		}
		if len(found) > 0 {
			return nil, found
		}
		l = append(l, api.Section{Id: int(id), At: start, Bytes: b[start : start+n]})
		at = start + n
	}
	return l, nil
}

// number is one without a sign of 32 bits, and how many bytes it has: 0, if there is none.
func number(b []byte) (n, width int) {
	for i, c := range b {
		n |= int(c&0x7f) << (7 * i)
		if i == 4 && n >= 1<<32 || i == 5 {
			return 0, 0
		}
		if c < 0x80 {
			return n, i + 1
		}
	}
	return 0, 0
}

// checkScan looks at no more where one was at fault: there are too many to tell them all.
func checkScan(t *testing.T, b []byte) {
	t.Helper()
	if t.Failed() {
		return
	}
	l, found := scan(b)
	if len(found) > 0 {
		f := first(found)
		checkFault(t, b, f.code, f.place)
		return
	}
	checkSplit(t, b, l...)
	// P7.4: what was split, and joined, is split as it was, but for At.
	again, err := sect.Join(l)
	if err != nil || len(again) > len(b) {
		t.Errorf("%.99x was joined as %.99x, %v", b, again, err)
	}
	checkJoined(t, l, again)
}

// checkJoined holds P7.4: what was joined is split as it was, but for At, which is where the bytes stand.
func checkJoined(t *testing.T, l []api.Section, b []byte) {
	t.Helper()
	got, err := sect.Split(b)
	if err != nil || len(got) != len(l) {
		t.Errorf("Split(%.99x) = %v, %v; not %v", b, show(got), err, show(l))
		return
	}
	for i, s := range got {
		if s.Id != l[i].Id || !bytes.Equal(s.Bytes, l[i].Bytes) || !bytes.HasPrefix(b[s.At:], s.Bytes) {
			t.Errorf("Split(%.99x) = %v; not %v", b, show(got), show(l))
			return
		}
	}
}

// P7.1: all short runs out of some bytes, against the second reading.
func TestSplitShortRuns(t *testing.T) {
	alphabet := []byte{0x00, 0x01, 0x02, 0x0b, 0x0c, 0x7f, 0x80, 0xff}
	var grow func(b []byte, left int)
	grow = func(b []byte, left int) {
		checkScan(t, b)
		if left == 0 {
			return
		}
		for _, c := range alphabet {
			grow(append(b, c), left-1)
		}
	}
	grow(module(), 6)
}

// P7.1: longer runs at chance, some of which have as many sections as there may be.
func TestSplitLongRuns(t *testing.T) {
	source := rand.New(rand.NewSource(71))
	for range 20000 {
		b := module()
		for id := 0; source.Intn(150) > 0; {
			part := make([]byte, source.Intn(3))
			source.Read(part)
			next := 0
			if source.Intn(8) == 0 && id < 11 {
				id++
				next = id
			}
			b = append(b, byte(next), byte(len(part)))
			b = append(b, part...)
		}
		checkScan(t, b)
		b[source.Intn(len(b))] = byte(source.Intn(14))
		checkScan(t, b)
		checkScan(t, b[:source.Intn(len(b)+1)])
	}
}

// sections are some at chance, that may be joined.
func sections(source *rand.Rand) []api.Section {
	l := make([]api.Section, source.Intn(129))
	for i := range l {
		part := make([]byte, source.Intn(40)*source.Intn(10))
		source.Read(part)
		l[i] = api.Section{At: source.Intn(1000) - 500, Bytes: part}
	}
	place := 0
	for id := 1; id <= 11; id++ {
		if place += source.Intn(12); place >= len(l) {
			break
		}
		if source.Intn(3) > 0 {
			l[place].Id = id
			place++
		}
	}
	return l
}

// P7.4: what was joined is split as it was; with a custom more behind there is one more.
func TestJoinSplit(t *testing.T) {
	source := rand.New(rand.NewSource(74))
	for range 3000 {
		l := sections(source)
		b, err := sect.Join(l)
		if err != nil || t.Failed() {
			t.Fatal(len(l), err)
		}
		checkJoined(t, l, b)
		part := make([]byte, source.Intn(100))
		more := append(slices.Clone(l), section(0, part...))
		behind := slices.Concat(b, []byte{0, byte(len(part))}, part)
		if len(l) == 128 {
			checkFault(t, behind, api.ErrLarge, len(b))
			checkRefused(t, more)
			continue
		}
		checkJoin(t, more, behind)
		checkJoined(t, more, behind)
	}
}

// P7.3: what is handed in stays as it is.
func TestUnchanged(t *testing.T) {
	for _, g := range good {
		whole := append(module(unhex(g.bytes)), 0x77, 0x88)
		was := slices.Clone(whole)
		b := whole[:len(whole)-2] // with room behind it
		sect.Split(b)
		sect.Split(b[:len(b)-1])
		if !bytes.Equal(whole, was) {
			t.Errorf("Split(%x) changed it to %x", was, whole)
		}
	}
	room := []byte{1, 2, 3, 4}
	l := []api.Section{{Id: 1, At: 5, Bytes: room[:2]}, {Id: 2, At: 6, Bytes: room[1:3]}, {Id: 3, At: 7, Bytes: room}, {Id: 9, At: 8}}
	was := slices.Clone(l)
	checkJoin(t, l[:2], module(unhex("01 02 01 02 02 02 02 03")))
	checkRefused(t, append(l, section(9)))
	if !slices.EqualFunc(l, was, same) || !bytes.Equal(room, []byte{1, 2, 3, 4}) {
		t.Error("changed:", l, room)
	}
}

// P7.3: what was split hangs neither on the bytes, nor on another answer, nor one section on another.
func TestSplitNewMemory(t *testing.T) {
	b := module(unhex("01 03 01 02 03 00 00 02 02 04 05 00 02 06 07"))
	want := []api.Section{{Id: 1, At: 10, Bytes: []byte{1, 2, 3}}, {At: 15}, {Id: 2, At: 17, Bytes: []byte{4, 5}}, {At: 21, Bytes: []byte{6, 7}}}
	l, err := sect.Split(b)
	other, _ := sect.Split(b)
	if err != nil {
		t.Fatal(err)
	}
	for i := range b {
		b[i] = 0xee
	}
	for i := range l {
		_ = append(l[i].Bytes, 0xee, 0xee, 0xee)
	}
	if !slices.EqualFunc(l, want, same) || !slices.EqualFunc(other, want, same) {
		t.Error("they hang on the bytes, or on one another:", l, other)
	}
	for i := range l {
		for j := range l[i].Bytes {
			l[i].Bytes[j] = 0xdd
		}
		l[i] = api.Section{}
	}
	if !slices.EqualFunc(other, want, same) {
		t.Error("they hang on another answer:", other)
	}
	// No bytes at all keep no memory of what was handed in.
	alone := module([]byte{1, 0, 0, 0})
	none, _ := sect.Split(alone)
	for _, s := range none {
		_ = append(s.Bytes, 0xee)
	}
	if !bytes.Equal(alone, module([]byte{1, 0, 0, 0})) {
		t.Errorf("changed: %x", alone)
	}
}

// P7.3: what was joined hangs neither on the sections, nor on another answer; nor does a fault on another.
func TestJoinNewMemory(t *testing.T) {
	part := []byte{1, 2, 3}
	for _, l := range [][]api.Section{nil, {section(1, part...)}, {{Id: 2, Bytes: part}, {Bytes: part}}} {
		b, _ := sect.Join(l)
		other, _ := sect.Join(l)
		want := slices.Clone(b)
		for i := range b {
			b[i] = 0xee
		}
		_ = append(b, 0xee, 0xee)
		if !bytes.Equal(other, want) {
			t.Errorf("%x, not %x", other, want)
		}
		checkJoin(t, l, want)
	}
	b, _ := sect.Join([]api.Section{{Id: 2, Bytes: part}})
	part[0] = 9
	if !bytes.Equal(b, module(unhex("02 03 01 02 03"))) {
		t.Errorf("it hangs on the section: %x", b)
	}
	_, err := sect.Split(nil)
	s := err.(*api.Spot)
	s.At, s.Err = 99, api.ErrTrap
	checkFault(t, nil, api.ErrForm, 0)
}
