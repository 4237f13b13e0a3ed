package bin_test

import (
	"bytes"
	"math"
	"slices"
	"strings"
	"testing"

	"grommet/api"
	"grommet/bin"
	"grommet/tree"
)

// P8.2: what sect.Split refuses comes first, wherever it stands.
func TestDecodeSections(t *testing.T) {
	bad := whole("1: 01 61", "7: 01 00 04")
	for _, x := range []struct {
		behind string
		place  int
	}{
		{"0c 00", 0}, {"07 00", 0}, {"01 00", 0}, {"0b 05 00", 1}, {"00 80", 1}, {"00 ffffffff1f", 1}, {"08", 1},
	} {
		checkFault(t, append(slices.Clone(bad), unhex(x.behind)...), api.ErrForm, len(bad)+x.place)
	}
	checkFault(t, nil, api.ErrForm, 0)
	checkFault(t, []byte{}, api.ErrForm, 0)
	checkFault(t, bad[1:], api.ErrForm, 0)
	many := append(slices.Clone(bad), bytes.Repeat([]byte{0, 0}, 127)...)
	checkFault(t, many, api.ErrLarge, len(many)-2)
	checkFault(t, many[:len(many)-2], api.ErrForm, 11)
}

// P8.2: ErrForm stands at the number, or byte, that isn't as the chapter has it.
func TestDecodeForm(t *testing.T) {
	for _, s := range []string{
		// numbers that are too long, have bits that are too many, or are cut off
		"1: !8080808010", "1: !808080808000", "1: !80", "1: 01 60 !ffffffff1f", "1: 01 60 00 !ffff",
		"2: !ffffffff7f", "2: 01 !80", "2: 01 00 !ffffffffff", "2: 01 00 00 00 !8080808010", "2: 01 00 00 01 70 00 !80", "2: 01 00 00 02 01 00 !8080808080",
		"3: !80", "3: 02 00 !8080808010", "4: 01 70 01 !80", "4: 01 70 01 00 !8080808020", "5: 01 00 !ff", "6: !8080808010",
		"7: 01 !8080808010", "7: 01 00 00 !ffffffff1f", "8: !80", "8: !8080808010",
		"9: !80", "9: 01 !80", "9: 01 00 41 00 0b !80", "9: 01 00 41 00 0b 02 00 !8080808010",
		"10: !80", "10: 01 !8080808010", "10: 01 01 !80", "10: 01 03 01 !80 80", "11: 01 !ff", "11: 01 00 41 00 0b !8080808010", "0: !80", "0: !8080808010 00",
		// bytes that aren't what they should be
		"1: 01 !61 00 00", "1: 01 !00", "1: 01 !80 60", "1: 01 60 01 !40 00", "1: 01 60 00 01 !00", "1: 02 60 00 00 !7f",
		"2: 01 00 00 !04 00", "2: 01 00 00 !80 00 00", "2: 01 00 00 !ff", "2: 01 00 00 01 !6f 00 00", "2: 01 00 00 01 !00 00",
		"2: 01 00 00 01 70 !02 00 00", "2: 01 00 00 02 !70 00 00", "2: 01 00 00 03 !7b 00", "2: 01 00 00 03 7f !02", "2: 01 00 00 03 7f !80 00",
		"4: 01 !7f 00 00", "4: 01 70 !03 00", "4: 02 70 00 00 !00 00 00", "5: 01 !02 00", "5: 01 !80 00 00",
		"6: 01 !60 00 41 00 0b", "6: 01 7f !ff 41 00 0b", "6: 01 7f !41 00 0b", "7: 01 00 !04 00", "7: 01 00 !80 00 00",
		"9: 01 !01 41 00 0b 00", "9: 01 !8100 41 00 0b 00", "9: 01 !ffffffff0f", "11: 01 !01", "11: 02 00 41 00 0b 00 !02 41 00 0b 00",
		"10: 01 04 01 01 !70 0b", "10: 01 03 01 01 !00",
		// names that are no texts
		"2: 01 01 !ff", "2: 01 03 61 !c080 00 00", "2: 01 00 02 61 !e2 00 00", "2: 01 00 03 !eda080 00 00", "7: 01 04 61 62 !e282 00 00",
		"7: 02 00 00 00 03 c3a9 !80 00 00", "0: 01 !80", "0: 02 61 !e2 82 ac", "0: 04 !f4908080",
		// too many bytes
		"1: 00 !00", "1: 01 60 00 00 !60", "2: 00 !ff", "3: 01 00 !00", "4: 00 !80", "5: 01 00 00 !00 00", "6: 01 7f 00 41 00 0b !0b", "7: 01 00 00 00 !01", "8: 00 !00",
		"9: 01 00 41 00 0b 00 !00", "10: 00 !02 00 0b", "10: 01 02 00 0b !00", "11: 01 00 41 00 0b 01 55 !55", "11: 00 !43",
		"10: 01 03 00 0b !0b", "10: 01 04 00 0b !00 0b", "10: 02 03 00 0b !01 02 00 0b",
		// more bytes of code than there are
		"10: 01 !01", "10: 01 !03 00 0b", "10: 02 02 00 0b !03 00 0b", "10: 01 !ffffffff0f 00 0b", "10: 01 !8380808000 00 0b",
		// expressions of none, or several, instructions
		"6: 01 7f 00 !0b", "6: 01 7e 01 !41 00 41 00 0b", "6: 02 7f 00 41 00 0b 7e 00 !01 01 01 0b", "9: 01 00 !0b 00", "9: 01 00 !41 00 01 0b 00", "11: 01 8000 !0b 00", "11: 01 00 !01 02 40 0b 0b 00",
		// expressions that are none
		"6: 01 7f 00 41 !ffffffff0f 0b", "6: 01 7f 00 !05 0b", "6: 01 7f 00 01 01 !06 0b", "9: 01 00 41 !80", "11: 01 00 3f !01 0b 00", "10: 01 05 00 02 !41 0b 0b", "10: 01 03 00 20 !80",
		// behind the bytes, where there should be more
		"1: !", "2: !", "3: !", "4: !", "5: !", "6: !", "7: !", "8: !", "9: !", "10: !", "11: !", "0: !", "3: 02 00 !", "1: 01 60 00 01 !", "7: 01 05 61 62 !", "0: 02 61 !", "5: 01 01 00 !",
		"6: 01 7f 00 41 00 !", "6: 01 7f 00 02 40 01 0b !", "9: 01 00 41 00 0b 02 07 !", "11: 01 00 41 00 0b 8010 55 !", "2: 01 00 00 !", "2: 01 00 00 03 7e !", "10: 02 02 00 0b !",
		// likewise of a function's code, though the section goes on
		"10: 01 00 !", "10: 02 00 !02 00 0b", "10: 02 01 00 !02 00 0b", "10: 02 02 01 01 !7f 00 0b", "10: 02 02 00 41 !00 0b 00", "10: 02 04 00 02 40 01 !0b 0b",
	} {
		checkBuilt(t, api.ErrForm, s)
	}
}

// P8.2: of several faults the first one is told, from the front.
func TestDecodeFirst(t *testing.T) {
	for _, x := range []struct {
		code     api.Code
		sections []string
	}{
		{api.ErrForm, []string{"1: 01 !61", "2: 05"}}, {api.ErrForm, []string{"1: 00", "2: 01 !80", "5: ff"}}, {api.ErrForm, []string{"0: 01 !ff", "1: 01 61"}},
		{api.ErrForm, []string{"3: 01 !80", "10: 00"}}, {api.ErrForm, []string{"3: 01 00", "10: 00 !00"}}, {api.ErrForm, []string{"8: 00 !01", "11: 01 05"}},
		{api.ErrForm, []string{"8: 00", "10: 01 02 00 !05", "0: ff"}}, {api.ErrFloat, []string{"1: 01 60 01 !7d 61", "2: 05"}}, {api.ErrLarge, []string{"1: !41 61"}}, {api.ErrLarge, []string{"2: 01 !41 ff"}},
		{api.ErrLarge, []string{"3: !41", "10: 00"}}, {api.ErrLarge, []string{"10: 01 06 01 !41 7d 00 00 0b"}}, {api.ErrFloat, []string{"10: 02 06 01 00 !7d 41 43 0b 01"}},
		{api.ErrForm, []string{"10: 02 !07 01 00 7d 00 0b"}}, {api.ErrFloat, []string{"6: 01 !7c 02 43 0b"}}, {api.ErrForm, []string{"6: 01 7f !02 43 0b"}}, {api.ErrFloat, []string{"6: 01 7f 00 !43 0b"}},
		// An expression is read before it is seen how many instructions it has.
		{api.ErrFloat, []string{"6: 01 7f 00 01 01 !43 0b"}}, {api.ErrForm, []string{"9: 01 00 01 01 !06 0b"}}, {api.ErrForm, []string{"11: 01 00 01 01 !"}},
		// A list is too long even if it isn't there.
		{api.ErrLarge, []string{"11: 01 00 41 00 0b !8120"}}, {api.ErrLarge, []string{"9: 01 00 41 00 0b !ffffffff0f"}}, {api.ErrLarge, []string{"0: !41 61"}},
	} {
		checkBuilt(t, x.code, x.sections...)
	}
}

// P8.2: sections 3 and 10 have as many each; that is looked at behind all.
func TestDecodeFuncs(t *testing.T) {
	for _, sections := range [][]string{
		{"3: 01 00"}, {"10: 01 02 00 0b"}, {"3: 02 00 00", "10: 01 02 00 0b"}, {"3: 01 00", "10: 02 02 00 0b 02 00 0b"}, {"3: 01 00", "10: 00"}, {"3: 00", "10: 01 02 00 0b"}, {"3: 01 00", "11: 00", "0: 01 61 62"},
	} {
		checkBuilt(t, api.ErrForm, sections...)
		checkBuilt(t, api.ErrForm, append(slices.Clone(sections), "0: 05 !")...)
		checkBuilt(t, api.ErrLarge, append(slices.Clone(sections), "0: !41")...)
	}
}

// P8.2: at a type's byte 7f and 7e are types, 7d and 7c floats', all others none.
func TestDecodeTypes(t *testing.T) {
	for _, x := range []struct {
		sections []string // '*' is the type's byte
		of       func(api.Module) int
	}{
		{[]string{"1: 01 60 02 7f !* 00"}, func(m api.Module) int { return m.Types[0].Params[1] }},
		{[]string{"1: 01 60 01 7f 01 !*"}, func(m api.Module) int { return m.Types[0].Results[0] }},
		{[]string{"2: 01 00 00 03 !* 01"}, func(m api.Module) int { return m.Imports[0].Type }},
		{[]string{"6: 01 !* 00 41 00 0b"}, func(m api.Module) int { return m.Globals[0].Type }},
		{[]string{"3: 01 00", "10: 01 06 02 01 7f 01 !* 0b"}, func(m api.Module) int { return m.Funcs[0].Locals[1] }},
	} {
		for c := range 0x100 {
			sections := slices.Clone(x.sections)
			last := len(sections) - 1
			sections[last] = strings.Replace(sections[last], "*", hexOf(byte(c)), 1)
			b, place := build(sections...)
			switch c {
			case 0x7f, 0x7e:
				want := map[int]int{0x7f: api.I32, 0x7e: api.I64}[c]
				if m, err := bin.Decode(b); err != nil || x.of(m) != want {
					t.Errorf("Decode(%x) = %+v, %v", b, m, err)
				}
			case 0x7d, 0x7c:
				checkFault(t, b, api.ErrFloat, place)
			default:
				checkFault(t, b, api.ErrForm, place)
			}
		}
	}
	// A run of none has a type, too; a block's float is expr's.
	checkBuilt(t, api.ErrFloat, "3: 01 00", "10: 01 04 01 00 !7c 0b")
	checkBuilt(t, api.ErrFloat, "3: 01 00", "10: 01 05 00 02 !7d 0b 0b")
	checkBuilt(t, api.ErrFloat, "9: 01 00 !43 00000000 0b 00")
	checkBuilt(t, api.ErrFloat, "11: 01 00 02 !7c 0b 0b 00")
	// They are no floats where no type is asked for.
	checkBuilt(t, api.ErrForm, "1: 01 !7d 00 00")
	checkBuilt(t, api.ErrForm, "4: 01 !7d 00 00")
	checkBuilt(t, api.ErrForm, "7: 01 00 !7d 00")
}

// P8.2: of the bytes that tell which of several things stand behind them, just those are there that the chapter names.
func TestDecodeBytes(t *testing.T) {
	for _, x := range []struct {
		section string // '*' is the byte
		may     []int
	}{
		{"1: 01 !* 00 00", []int{0x60}},
		{"2: 01 00 00 !* 00", []int{0}},
		{"2: 01 00 00 !* 70 00 00", []int{1}},
		{"2: 01 00 00 !* 01 00 00", []int{2}},
		{"2: 01 00 00 !* 7f 01", []int{3}},
		{"2: 01 00 00 01 !* 00 00", []int{0x70}},
		{"2: 01 00 00 03 7f !*", []int{0, 1}},
		{"4: 01 70 !* 00", []int{0}},
		{"5: 01 !* 00 00", []int{1}},
		{"6: 01 7f !* 41 00 0b", []int{0, 1}},
		{"7: 01 00 !* 05", []int{0, 1, 2, 3}},
		{"9: 01 !* 41 00 0b 00", []int{0}},
		{"11: 01 !* 41 00 0b 00", []int{0}},
	} {
		for c := range 0x100 {
			b, place := build(strings.Replace(x.section, "*", hexOf(byte(c)), 1))
			m, err := bin.Decode(b)
			if ok := slices.Contains(x.may, c); ok != (err == nil) {
				t.Errorf("Decode(%x) = %+v, %v", b, m, err)
			}
			// Some say what stands behind them; it isn't there then.
			if c > 0x03 && !slices.Contains(x.may, c) {
				checkFault(t, b, api.ErrForm, place)
			}
		}
	}
}

// limited are lists, the bytes of an element, and how many may be there.
var limited = []struct {
	section string // '#' is how many there are, '*' all of them
	element string
	limit   int
}{
	{"1: # *", "60 00 00", 64},
	{"1: 01 60 # * 00", "7f", 64},
	{"1: 01 60 00 # *", "7e", 64},
	{"2: # *", "00 00 00 00", 64},
	{"2: 01 # * 00 00 00", "61", 64},
	{"2: 01 00 # * 00 00", "61", 64},
	{"4: # *", "70 00 00", 64},
	{"5: # *", "01 00 00", 64},
	{"6: # *", "7f 00 41 00 0b", 64},
	{"7: # *", "00 00 00", 64},
	{"7: 01 # * 00 00", "00", 64},
	{"9: # *", "00 41 00 0b 00", 64},
	{"9: 01 00 41 00 0b # *", "05", 64},
	{"11: # *", "00 41 00 0b 00", 64},
	{"11: 01 00 41 00 0b # *", "ff", 4096},
	{"0: # * 77", "61", 64},
}

// number writes one in so many bytes.
func number(n, width int) string {
	var b []byte
	for i := range width {
		c := byte(n>>(7*i)) & 0x7f
		if i < width-1 {
			c |= 0x80
		}
		b = append(b, c)
	}
	return hexOf(b...)
}

// P8.2: lists are read up to their limits; above them ErrLarge stands at how many there are, whatever is behind it.
func TestDecodeLarge(t *testing.T) {
	fill := func(s string, n, width, there int, element string) string {
		return strings.Replace(strings.Replace(s, "#", "!"+number(n, width), 1), "*", strings.Repeat(element, there), 1)
	}
	for _, x := range limited {
		s := x.section
		for _, n := range []int{0, 1, x.limit - 1, x.limit} {
			for _, width := range []int{2, 3, 5} {
				b, _ := build(fill(s, n, width, n, x.element))
				m, err := bin.Decode(b)
				if err != nil {
					t.Errorf("%s: %d: %v", s, n, err)
				}
				checkDecode(t, mustEncode(t, m), m)
			}
		}
		for _, n := range []int{x.limit + 1, x.limit + 2, x.limit + 128, x.limit + 256, 1 << 20, 1 << 31, max32} {
			for _, there := range []int{0, 1, min(n, x.limit+200)} {
				b, place := build(fill(s, n, 5, there, x.element))
				checkFault(t, b, api.ErrLarge, place)
			}
		}
	}
	for _, n := range []int{64, 65, 1000} {
		types := number(n, 2) + strings.Repeat("00", n)
		codes := number(n, 2) + strings.Repeat("02 00 0b", n)
		if n == 64 {
			checkDecode(t, whole("3:"+types, "10:"+codes), with(func(m *api.Module) { m.Funcs = make([]api.Func, 64) }))
			continue
		}
		checkBuilt(t, api.ErrLarge, "3: !"+types, "10:"+codes)
		checkBuilt(t, api.ErrLarge, "10: !"+codes)
	}
}

func mustEncode(t *testing.T, m api.Module) []byte {
	t.Helper()
	b, err := bin.Encode(m)
	if err != nil {
		t.Errorf("Encode(%+v): %v", m, err)
	}
	return b
}

// P8.2: locals are too many at the count by which they are.
func TestDecodeLocals(t *testing.T) {
	body := func(runs string) string {
		return "10: 01" + number(len(unhex(strings.ReplaceAll(runs, "!", ""))), 5) + runs
	}
	for _, runs := range []string{
		"01 !41 7f 0b", "02 40 7f !01 7f 0b", "02 3f 7f !02 7e 0b", "03 20 7f 20 7e !01 7f 0b", "03 40 7f 00 7e !01 7f 0b", "02 01 7f !ffffffff0f 7f 0b", "01 !ffffffff0f 7f 0b", "02 40 7f !ffffffff0f 7f 0b",
		"01 !8080808008 7f 0b", "02 40 7f !40 7f 0b", "01 !41", "01 !41 7d", "03 01 7f 01 7f !c000 7f ff", "ffffffff0f 40 7f !01", "01 !c180808000 7f 0b",
	} {
		checkBuilt(t, api.ErrLarge, "3: 01 00", body(runs))
		checkBuilt(t, api.ErrLarge, body(runs))
	}
	for _, runs := range []string{"01 40 7f 0b", "02 40 7f 00 7e 0b", "02 3f 7f 01 7f 0b", "03 20 7f 00 7e a000 7f 0b", "c100" + strings.Repeat("00 7e", 64) + "40 7f 0b", "41" + strings.Repeat("00 7e", 64) + "40 7f 0b"} {
		checkDecode(t, whole("3: 01 00", body(runs)), with(func(m *api.Module) { m.Funcs = []api.Func{{Locals: slices.Repeat([]int{api.I32}, 64)}} }))
	}
	// There are no too many runs.
	checkDecode(t, whole("3: 01 00", body("a09c01"+strings.Repeat("00 7e", 20000)+"0b")), with(func(m *api.Module) { m.Funcs = make([]api.Func, 1) }))
	checkBuilt(t, api.ErrForm, "3: 01 00", body("ffffffff0f 00 7f 00 7e !"))
}

// P8.2: an expression's own limits are expr's.
func TestDecodeExpressions(t *testing.T) {
	nopCode := strings.Repeat("01", 512)
	for _, s := range []string{"6: 01 7f 00 02 40" + nopCode[:2*511] + "!01 0b 0b", "9: 01 00" + strings.Repeat("02 40", 32) + "!02 40", "11: 01 00 0e !40" + nopCode,
		"10: 01" + number(514, 2) + "00" + nopCode + "!01", "10: 01 ff00 00" + strings.Repeat("03 40", 32) + "!03 40" + nopCode[:2*60]} {
		checkBuilt(t, api.ErrLarge, s)
	}
	// Each has them for itself.
	code := "00" + nopCode + "0b"
	m := with(func(m *api.Module) {
		m.Funcs = []api.Func{{Body: nops(512)}, {Body: nops(512)}}
	})
	checkDecode(t, whole("3: 02 00 00", "10: 02"+hexOf(sized(unhex(code))...)+hexOf(sized(unhex(code))...)), m)
}

// P8.2: of customs the bytes, and how many there are, have limits of their own places.
func TestDecodeCustoms(t *testing.T) {
	bytesOf := func(n int) string { return strings.Repeat("5a", n) }
	for _, n := range []int{0, 1, 4095, 4096} {
		checkDecode(t, whole("0: 01 63"+bytesOf(n)), with(func(m *api.Module) { m.Customs = []api.Custom{{Name: "c", Bytes: bytes.Repeat([]byte{0x5a}, n)}} }))
	}
	for _, n := range []int{4097, 5000, 1 << 16} {
		checkBuilt(t, api.ErrLarge, "0: 01 63 !"+bytesOf(n))
		checkBuilt(t, api.ErrLarge, "1: 00", "0: 00 !"+bytesOf(n), "0: ff")
		checkBuilt(t, api.ErrForm, "0: 01 !ff"+bytesOf(n))
		checkBuilt(t, api.ErrLarge, "0: !41"+bytesOf(n))
	}
	full := append(slices.Repeat([]string{"0: 01 63"}, 63), "2: 00", "0: 00 00", "4: 00")
	b := whole(full...)
	if m, err := bin.Decode(b); err != nil || len(m.Customs) != 64 || m.Customs[63].Name != "" {
		t.Error(m, err)
	}
	for _, x := range []struct {
		code api.Code
		last string
	}{
		{api.ErrLarge, "0: !00"}, {api.ErrLarge, "0: !01 63 77"}, {api.ErrLarge, "0: !8000 77"}, {api.ErrLarge, "0: !00" + bytesOf(4096)},
		// It is looked at behind its name and its bytes.
		{api.ErrForm, "0: !"}, {api.ErrForm, "0: 01 !"}, {api.ErrForm, "0: 01 !ff"}, {api.ErrLarge, "0: !41"}, {api.ErrLarge, "0: 01 63 !" + bytesOf(4097)},
	} {
		checkBuilt(t, x.code, append(slices.Clone(full), x.last, "5: 01", "0: ff")...)
		checkBuilt(t, x.code, append(slices.Clone(full), x.last)...)
	}
	checkBuilt(t, api.ErrForm, append(slices.Clone(full), "5: 01 !", "0: 00")...)
}

// P8.2: cut anywhere, a section's bytes end too early, at their end; but for a number that is cut in two, which is none.
func TestDecodeCut(t *testing.T) {
	for _, g := range good {
		for i, s := range g.sections {
			id, contents, _ := strings.Cut(s, ":")
			part := unhex(contents)
			// What is behind a custom's name is free, and code tells its own size.
			if id == "0" || id == "10" {
				continue
			}
			for n := range part {
				if n > 0 && part[n-1] >= 0x80 {
					continue
				}
				sections := append(slices.Clone(g.sections[:i]), id+":"+hexOf(part[:n]...)+"!", "11: ff")
				if id == "11" {
					sections = sections[:len(sections)-1]
				}
				checkBuilt(t, api.ErrForm, sections...)
			}
		}
	}
}

// P8.3: what is handed in stays as it is.
func TestUnchanged(t *testing.T) {
	for _, g := range good {
		b := append(whole(g.sections...), 0x77, 0x88)
		was := slices.Clone(b)
		m, err := bin.Decode(b[:len(b)-2]) // with room behind it
		bin.Decode(b[:len(b)-3])
		if err != nil || !bytes.Equal(b, was) {
			t.Errorf("Decode(%x) changed it to %x, %v", was, b, err)
		}
		bin.Encode(m)
		other, _ := bin.Decode(was[:len(was)-2])
		if !tree.Same(m, other) || !tree.Same(m, g.m) {
			t.Errorf("Encode changed it to %+v", m)
		}
	}
	types, data := []int{1, 2, 1, 2}, []byte("abcd")
	m := with(func(m *api.Module) {
		m.Types = []api.FuncType{{Params: types[:1], Results: types[1:2]}}
		m.Datas = []api.Data{{Bytes: data[:2]}}
		m.Customs = []api.Custom{{Bytes: data[1:2]}}
	})
	checkEncode(t, m, whole("1: 01 60 01 7f 01 7e", "11: 01 00 00 0b 02 61 62", "0: 00 62"))
	if !slices.Equal(types, []int{1, 2, 1, 2}) || string(data) != "abcd" {
		t.Error("changed:", types, data)
	}
}

// spoil appends to each list of a module, and then fills it.
func spoil(m api.Module) {
	spoilList := func(l []int) {
		_ = append(l, 77, 77, 77, 77)
		for i := range l {
			l[i] = 66
		}
	}
	spoilBytes := func(l []byte) {
		_ = append(l, 77, 77, 77, 77)
		for i := range l {
			l[i] = 66
		}
	}
	for _, x := range m.Types {
		spoilList(x.Params)
		spoilList(x.Results)
	}
	for _, x := range m.Funcs {
		spoilList(x.Locals)
		_ = append(x.Body, zero, zero, zero)
		clear(x.Body)
	}
	for _, x := range m.Elems {
		spoilList(x.Funcs)
	}
	for _, x := range m.Datas {
		spoilBytes(x.Bytes)
	}
	for _, x := range m.Customs {
		spoilBytes(x.Bytes)
	}
	clear(m.Types)
	clear(m.Imports)
	clear(m.Funcs)
	clear(m.Tables)
	clear(m.Mems)
	clear(m.Globals)
	clear(m.Exports)
	clear(m.Elems)
	clear(m.Datas)
	clear(m.Customs)
}

// P8.3: what is told hangs neither on what was handed in, nor on another answer.
func TestNewMemory(t *testing.T) {
	for _, g := range good {
		b := whole(g.sections...)
		a, _ := bin.Decode(b)
		other, err := bin.Decode(b)
		for i := range b {
			b[i] = 0xee
		}
		if err != nil || !tree.Same(a, g.m) {
			t.Errorf("it hangs on the bytes: %+v, %v", a, err)
		}
		first, _ := bin.Encode(a)
		second, _ := bin.Encode(a)
		spoil(a)
		if !tree.Same(other, g.m) {
			t.Errorf("it hangs on another answer: %+v", other)
		}
		for i := range first {
			first[i] = 0xee
		}
		_ = append(first, 0xee, 0xee)
		if !bytes.Equal(second, whole(g.sections...)) {
			t.Errorf("it hangs on another answer, or on the module: %x", second)
		}
	}
	// A fault is its own, too: who changes one changes no other.
	_, err := bin.Decode(nil)
	s := spotOf(t, err)
	s.At, s.Err = 99, api.ErrTrap
	checkFault(t, nil, api.ErrForm, 0)
	_, err = bin.Decode(whole("8: 80"))
	s = spotOf(t, err)
	s.At, s.Err = 99, api.ErrTrap
	checkFault(t, whole("8: 80"), api.ErrForm, 10)
}

// P8.3: no two lists of one module share memory.
func TestListsApart(t *testing.T) {
	sections := []string{"1: 02 60 02 7f 7e 02 7f 7f 60 01 7e 01 7e", "3: 02 00 01", "9: 02 00 41 00 0b 02 01 02 00 41 00 0b 01 03", "10: 02 06 01 02 7f 01 01 0b 06 02 01 7f 01 7e 0b",
		"11: 02 00 41 00 0b 02 61 62 00 41 00 0b 02 63 64", "0: 01 65 66 67", "0: 01 65 68"}
	m, err := bin.Decode(whole(sections...))
	if err != nil {
		t.Fatal(err)
	}
	want, _ := bin.Decode(whole(sections...))
	var ints [][]int
	var parts [][]byte
	for i := range 2 {
		ints = append(ints, m.Types[i].Params, m.Types[i].Results, m.Funcs[i].Locals, m.Elems[i].Funcs)
		parts = append(parts, m.Datas[i].Bytes, m.Customs[i].Bytes)
	}
	for _, l := range ints {
		_ = append(l, 77, 77, 77, 77, 77, 77, 77, 77)
	}
	for _, l := range parts {
		_ = append(l, "????????"...)
	}
	if !tree.Same(m, want) {
		t.Errorf("lists share memory: %+v", m)
	}
	for i, l := range ints {
		for j := range l {
			l[j] = i
		}
	}
	for i, l := range ints {
		for _, n := range l {
			if n != i {
				t.Errorf("list %d shares memory: %v", i, l)
			}
		}
	}
}

// P1: each call ends, whatever it is given.
func TestAny(t *testing.T) {
	deep := nops(1)
	for range 1 << 16 {
		deep = code(api.Ins{Op: 0x02, Body: deep})
	}
	checkRefused(t, with(func(m *api.Module) { m.Funcs = []api.Func{{Body: deep}} }), api.ErrLarge)
	checkRefused(t, with(func(m *api.Module) { m.Globals = []api.Global{{Init: deep[0]}} }), api.ErrLarge)
	checkBuilt(t, api.ErrLarge, "10: 01"+number(1+2*(1<<16), 5)+"00"+strings.Repeat("02 40", 32)+"!"+strings.Repeat("02 40", 1<<16-32))
	checkRefused(t, api.Module{Start: math.MinInt}, api.ErrArg)
	checkRefused(t, api.Module{Start: math.MaxInt}, api.ErrArg)
	checkRefused(t, with(func(m *api.Module) { m.Globals = make([]api.Global, 1) }), api.ErrArg)
	checkEncode(t, api.Module{}, whole("8: 00"))
	checkFault(t, bytes.Repeat([]byte{0}, 1<<20), api.ErrForm, 0)
}
