package bin_test

import (
	"errors"
	"fmt"
	"math/rand"
	"slices"
	"testing"
	"unicode/utf8"

	"grommet/api"
	"grommet/bin"
	"grommet/expr"
	"grommet/sect"
)

// forms are the chapter's table once more: a letter is what step reads by it, a star says that the rest is a list's element.
var forms = map[int]string{
	0: "sr", 1: "*Fpp", 2: "*ssi", 3: "*n", 4: "*Tl", 5: "*l", 6: "*tfe", 7: "*skn", 8: "n", 9: "*zex", 10: "*c", 11: "*zed",
}

// imports are what stands behind an import's Kind.
var imports = []string{"n", "Tl", "l", "tf"}

// fault is what a scanner panics with.
type fault struct {
	code api.Code
	at   int
}

// scanner reads a part of the bytes, and says what it has.
type scanner struct {
	b       []byte
	at, end int
	said    []string
}

func (s *scanner) say(v ...any) { s.said = append(s.said, fmt.Sprint(v...)) }

func (s *scanner) refuse(is bool, code api.Code, at int) {
	if is {
		panic(fault{code, at})
	}
}

// number reads one bit by bit; where none stands at all, the bytes end too early.
func (s *scanner) number() int {
	start, v := s.at, 0
	for i := 0; ; i++ {
		s.refuse(s.at == s.end, api.ErrForm, start)
		c := s.b[s.at]
		s.at++
		for bit := range 7 {
			if c>>bit&1 == 1 {
				s.refuse(7*i+bit > 31, api.ErrForm, start)
				v |= 1 << (7*i + bit)
			}
		}
		if c < 0x80 {
			return v
		}
		s.refuse(i == 4, api.ErrForm, start)
	}
}

func (s *scanner) byteOf(may ...byte) byte {
	s.refuse(s.at == s.end, api.ErrForm, s.at)
	c := s.b[s.at]
	s.refuse(!slices.Contains(may, c), api.ErrForm, s.at)
	s.at++
	return c
}

func (s *scanner) typeOf() {
	s.refuse(s.at < s.end && (s.b[s.at] == 0x7d || s.b[s.at] == 0x7c), api.ErrFloat, min(s.at, s.end))
	s.say(map[byte]int{0x7f: 1, 0x7e: 2}[s.byteOf(0x7f, 0x7e)])
}

// many reads how many there are of a list.
func (s *scanner) many(limit int) int {
	start := s.at
	n := s.number()
	s.refuse(n > limit, api.ErrLarge, start)
	return n
}

func (s *scanner) bytes(limit int) []byte {
	n := s.many(limit)
	s.refuse(n > s.end-s.at, api.ErrForm, s.end)
	s.at += n
	return s.b[s.at-n : s.at]
}

func (s *scanner) expression() []api.Ins {
	l, next, err := expr.Get(s.b[:s.end], s.at)
	var x *api.Spot
	if errors.As(err, &x) {
		panic(fault{x.Err.(api.Code), x.At})
	}
	s.at = next
	return l
}

func (s *scanner) code() {
	start := s.at
	size := s.number()
	s.refuse(size > s.end-s.at, api.ErrForm, start)
	part := &scanner{b: s.b, at: s.at, end: s.at + size}
	left := 64
	for range part.number() {
		start := part.at
		n := part.number()
		part.refuse(n > left, api.ErrLarge, start)
		left -= n
		part.typeOf()
		t := part.said[len(part.said)-1]
		part.said = append(part.said[:len(part.said)-1], slices.Repeat([]string{t}, n)...)
	}
	s.said = append(s.said, part.said...)
	s.say(part.expression())
	s.refuse(part.at < part.end, api.ErrForm, part.at)
	s.at = part.end
}

func (s *scanner) step(letter rune) {
	switch letter {
	case 'F':
		s.byteOf(0x60)
	case 'T':
		s.byteOf(0x70)
	case 'n':
		s.say(s.number())
	case 'z':
		start := s.at
		s.refuse(s.number() != 0, api.ErrForm, start)
	case 't':
		s.typeOf()
	case 'f':
		s.say(s.byteOf(0, 1) == 1)
	case 'k':
		s.say(s.byteOf(0, 1, 2, 3))
	case 'i':
		k := s.byteOf(0, 1, 2, 3)
		s.say(k)
		s.steps(imports[k])
	case 'l':
		has := s.byteOf(0, 1)
		s.say(s.number())
		if has == 1 {
			s.say(s.number())
		}
	case 'e':
		start := s.at
		l := s.expression()
		s.refuse(len(l) != 1, api.ErrForm, start)
		s.say(l)
	case 's':
		text := s.bytes(64)
		for at := 0; at < len(text); {
			_, n := utf8.DecodeRune(text[at:])
			s.refuse(!utf8.Valid(text[at:at+n]), api.ErrForm, s.at-len(text)+at)
			at += n
		}
		s.say(string(text))
	case 'p':
		n := s.many(64)
		for s.say(n); n > 0; n-- {
			s.typeOf()
		}
	case 'x':
		n := s.many(64)
		for s.say(n); n > 0; n-- {
			s.say(s.number())
		}
	case 'd':
		s.say(s.bytes(4096))
	case 'r':
		s.refuse(s.end-s.at > 4096, api.ErrLarge, s.at)
		s.say(s.b[s.at:s.end])
		s.at = s.end
	case 'c':
		s.code()
	}
}

func (s *scanner) steps(form string) {
	for _, letter := range form {
		s.step(letter)
	}
}

// section reads one, and tells how many elements it has.
func (s *scanner) section(id int) int {
	form, n := forms[id], 1
	if form[0] == '*' {
		n = s.many(64)
		form = form[1:]
	}
	for range n {
		s.steps(form)
	}
	s.refuse(s.at < s.end, api.ErrForm, s.at)
	return n
}

// scan is the chapter's reading once more: what each section says, customs behind the others, or the fault.
func scan(b []byte) (said [12][]string, found fault) {
	defer func() {
		if r := recover(); r != nil {
			found = r.(fault)
		}
	}()
	sections, err := sect.Split(b)
	var x *api.Spot
	if errors.As(err, &x) {
		return said, fault{x.Err.(api.Code), x.At}
	}
	counts := [12]int{}
	for _, part := range sections {
		s := &scanner{b: b, at: part.At, end: part.At + len(part.Bytes)}
		counts[part.Id] += s.section(part.Id)
		if counts[0] > 64 {
			return said, fault{api.ErrLarge, part.At}
		}
		said[part.Id] = append(said[part.Id], s.said...)
	}
	if counts[3] != counts[10] {
		return said, fault{api.ErrForm, len(b)}
	}
	return said, fault{}
}

func sayLimits(s *scanner, l api.Limits) {
	s.say(l.Min)
	if l.Has {
		s.say(l.Max)
	}
}

func sayList(s *scanner, l []int, count bool) {
	if count {
		s.say(len(l))
	}
	for _, n := range l {
		s.say(n)
	}
}

// saying is what a module says, in the words of scan.
func saying(m api.Module) (said [12][]string) {
	var s [12]scanner
	for _, x := range m.Customs {
		s[0].say(x.Name)
		s[0].say(append([]byte{}, x.Bytes...))
	}
	for _, x := range m.Types {
		sayList(&s[1], x.Params, true)
		sayList(&s[1], x.Results, true)
	}
	for _, x := range m.Imports {
		s[2].say(x.Module)
		s[2].say(x.Name)
		s[2].say(x.Kind)
		switch x.Kind {
		case 0:
			s[2].say(x.Type)
		case 1, 2:
			sayLimits(&s[2], x.Limits)
		case 3:
			s[2].say(x.Type)
			s[2].say(x.Mut)
		}
	}
	for _, x := range m.Funcs {
		s[3].say(x.Type)
		sayList(&s[10], x.Locals, false)
		s[10].say(x.Body)
	}
	for _, x := range m.Tables {
		sayLimits(&s[4], x)
	}
	for _, x := range m.Mems {
		sayLimits(&s[5], x)
	}
	for _, x := range m.Globals {
		s[6].say(x.Type)
		s[6].say(x.Mut)
		s[6].say(code(x.Init))
	}
	for _, x := range m.Exports {
		s[7].say(x.Name)
		s[7].say(x.Kind)
		s[7].say(x.Index)
	}
	if m.Start >= 0 {
		s[8].say(m.Start)
	}
	for _, x := range m.Elems {
		s[9].say(code(x.Offset))
		sayList(&s[9], x.Funcs, true)
	}
	for _, x := range m.Datas {
		s[11].say(code(x.Offset))
		s[11].say(append([]byte{}, x.Bytes...))
	}
	for i := range s {
		said[i] = s[i].said
	}
	return said
}

// checkScan tells whether they are a module's.
func checkScan(t *testing.T, b []byte) bool {
	t.Helper()
	said, found := scan(b)
	if found.code != 0 {
		checkFault(t, b, found.code, found.at)
		return false
	}
	m, err := bin.Decode(b)
	got := saying(m)
	if err != nil || !slices.EqualFunc(got[:], said[:], func(a, b []string) bool { return slices.Equal(a, b) }) {
		t.Errorf("Decode(%.200x) = %+v, %v; not %v", b, m, err, said)
		return false
	}
	// P8.4: encoded again it is no longer, and is decoded as it was.
	again, err := bin.Encode(m)
	if err != nil || len(again) > len(b) {
		t.Errorf("%.200x was encoded as %.200x, %v", b, again, err)
	}
	checkDecode(t, again, m)
	return true
}

// P8.2, P8.4: of each section all short runs of bytes that are there to be told apart.
func TestShortRuns(t *testing.T) {
	for id, alphabet := range map[int]string{
		0: "00 01 02 61 80 c3 e2 ff", 1: "00 01 02 60 7f 7e 7d 80 41", 2: "00 01 02 03 70 7f 80 41", 3: "00 01 02 05 7f 80 41", 4: "00 01 02 70 7f 80 41", 5: "00 01 02 05 80 41", 6: "00 01 02 0b 41 7f 7c 80",
		7: "00 01 03 04 61 80 c3", 8: "00 01 7f 80 0f ff 10", 9: "00 01 0b 41 43 80 02", 10: "00 01 02 03 0b 40 7e 80", 11: "00 01 0b 41 02 80 05",
	} {
		many := 0
		run := make([]byte, 0, 6)
		var grow func()
		grow = func() {
			sections := []string{fmt.Sprintf("%d: %x", id, run)}
			switch id { // as many functions' types as there is code
			case 3:
				sections = append(sections, "10: 01 02 00 0b")
			case 10:
				sections = slices.Insert(sections, 0, "3: 01 05")
			}
			if checkScan(t, whole(sections...)) {
				many++
			}
			if len(run) == cap(run) || t.Failed() {
				return
			}
			for _, c := range unhex(alphabet) {
				run = append(run, c)
				grow()
				run = run[:len(run)-1]
			}
		}
		grow()
		if many < 6 {
			t.Errorf("of section %d only %d are good", id, many)
		}
	}
}

// maker makes modules at chance, that may be encoded.
type maker struct{ *rand.Rand }

func (m maker) number() int { return int(m.Uint32() >> m.Intn(32)) }

func (m maker) flip() bool { return m.Intn(2) == 0 }

func (m maker) size() int {
	if m.Intn(20) == 0 {
		return m.Intn(65)
	}
	return m.Intn(4)
}

func (m maker) name() string {
	s := ""
	for range m.Intn(4) {
		s += []string{"a", "é", "€", "\U0001f600", "\x00", "zz"}[m.Intn(6)]
	}
	return s
}

func (m maker) bytes() []byte {
	b := make([]byte, m.size()*(1+m.Intn(64)))
	m.Read(b)
	return b
}

func (m maker) typeOf() int { return 1 + m.Intn(2) }

func listOf[T any](m maker, each func() T) []T {
	var l []T
	for range m.size() {
		l = append(l, each())
	}
	return l
}

func (m maker) limits() api.Limits {
	l := api.Limits{Min: m.number(), Has: m.flip()}
	if l.Has {
		l.Max = m.number()
	}
	return l
}

func (m maker) ins() api.Ins {
	switch m.Intn(6) {
	case 0:
		return api.Ins{Op: 0x10, A: m.number()}
	case 1:
		return api.Ins{Op: 0x42, V: m.Uint64() >> m.Intn(64)}
	case 2:
		return api.Ins{Op: 0x04, T: m.Intn(3), Body: nops(m.Intn(3)), HasElse: true, Else: code(zero)}
	case 3:
		return api.Ins{Op: 0x0e, L: []int{m.number(), m.number()}}
	}
	return api.Ins{Op: 0x41, V: uint64(m.Uint32() >> m.Intn(32))}
}

func (m maker) imported() api.Import {
	x := api.Import{Module: m.name(), Name: m.name(), Kind: m.Intn(4)}
	switch x.Kind {
	case 0:
		x.Type = m.number()
	case 1, 2:
		x.Limits = m.limits()
	case 3:
		x.Type, x.Mut = m.typeOf(), m.flip()
	}
	return x
}

func (m maker) module() api.Module {
	x := api.Module{
		Types:   listOf(m, func() api.FuncType { return api.FuncType{Params: listOf(m, m.typeOf), Results: listOf(m, m.typeOf)} }),
		Imports: listOf(m, m.imported),
		Funcs: listOf(m, func() api.Func {
			return api.Func{Type: m.number(), Locals: listOf(m, m.typeOf), Body: listOf(m, m.ins)}
		}),
		Tables:  listOf(m, m.limits),
		Mems:    listOf(m, m.limits),
		Globals: listOf(m, func() api.Global { return api.Global{Type: m.typeOf(), Mut: m.flip(), Init: m.ins()} }),
		Exports: listOf(m, func() api.Export { return api.Export{Name: m.name(), Kind: m.Intn(4), Index: m.number()} }),
		Start:   -1,
		Elems:   listOf(m, func() api.Elem { return api.Elem{Offset: m.ins(), Funcs: listOf(m, m.number)} }),
		Datas:   listOf(m, func() api.Data { return api.Data{Offset: m.ins(), Bytes: m.bytes()} }),
		Customs: listOf(m, func() api.Custom { return api.Custom{Name: m.name(), Bytes: m.bytes()} }),
	}
	if m.flip() {
		x.Start = m.number()
	}
	return x
}

// P8.4: what was encoded is decoded as it was.
func TestRoundTrip(t *testing.T) {
	m := maker{rand.New(rand.NewSource(8))}
	for range 3000 {
		x := m.module()
		b := mustEncode(t, x)
		checkDecode(t, b, x)
		if !checkScan(t, b) {
			t.Errorf("%x isn't read", b)
		}
		again, err := bin.Decode(b)
		if err != nil || string(mustEncode(t, again)) != string(b) {
			t.Errorf("%x is encoded otherwise again", b)
		}
	}
}

// spoilt changes bytes at some places.
func (m maker) spoilt(b []byte) []byte {
	b = slices.Clone(b)
	odd := unhex("00 00 01 01 02 03 04 05 0b 40 41 41 43 60 70 7c 7d 7e 7f 80 80 81 ff")
	for range 1 + m.Intn(2) {
		at := m.Intn(len(b) + 1)
		c := odd[m.Intn(len(odd))]
		switch kind := m.Intn(5); {
		case kind == 0:
			b = slices.Insert(b, at, c)
		case at == len(b):
		case kind == 1:
			b = slices.Delete(b, at, at+1)
		case kind == 2:
			b = b[:at]
		case kind == 3:
			b[at] = byte(m.Intn(0x100))
		default:
			b[at] = c
		}
	}
	return b
}

// P8.2, P8.4: modules of which a section, or the whole, isn't as it was, customs ahead among them.
func TestSpoilt(t *testing.T) {
	m := maker{rand.New(rand.NewSource(88))}
	codes := map[api.Code]int{}
	for range 15000 {
		x := m.module()
		sections, err := sect.Split(mustEncode(t, x))
		if err != nil {
			t.Fatal(err)
		}
		for range m.Intn(3) {
			custom := api.Section{Bytes: append(sized([]byte(m.name())), m.bytes()...)}
			sections = slices.Insert(sections, m.Intn(len(sections)+1), custom)
		}
		if len(sections) > 0 && m.Intn(5) > 0 {
			s := &sections[m.Intn(len(sections))]
			s.Bytes = m.spoilt(s.Bytes)
		}
		b, err := sect.Join(sections)
		if err != nil {
			t.Fatal(err)
		}
		if m.Intn(5) == 0 {
			b = m.spoilt(b)
		}
		_, found := scan(b)
		codes[found.code]++
		checkScan(t, b)
		if t.Failed() {
			return
		}
	}
	if codes[0] < 1000 || codes[api.ErrForm] < 1000 || codes[api.ErrFloat] < 50 || codes[api.ErrLarge] < 100 {
		t.Error("too few:", codes)
	}
}
