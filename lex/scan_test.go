package lex_test

import (
	"math/rand"
	"regexp"
	"slices"
	"strings"
	"testing"

	"grommet/api"
	"grommet/lex"
)

// forms are the chapter's words once more, as patterns; what has no Kind is nothing.
var forms = []struct {
	kind int
	form *regexp.Regexp
}{
	{0, regexp.MustCompile("^[ \\t\\n\\r]")},
	{0, regexp.MustCompile("^;;[^\\n]*")},
	{api.TkClose, regexp.MustCompile(`^\)`)},
	{api.TkText, regexp.MustCompile(`^"([^\x00-\x1f\x7f"\\]|\\[^\x00-\x1f\x7f])*"`)},
	{api.TkAtom, regexp.MustCompile("^[a-zA-Z0-9!#$%&'*+\\-./:<=>?@\\\\^_`|~]+")},
}

// comment is the place behind the comment that begins there; -1: it isn't closed.
func comment(src string, at int) int {
	for at += 2; at < len(src); {
		switch {
		case strings.HasPrefix(src[at:], ";)"):
			return at + 2
		case strings.HasPrefix(src[at:], "(;"):
			at = comment(src, at)
			if at < 0 {
				return -1
			}
		default:
			at++
		}
	}
	return -1
}

// front is the Kind of what stands there, and the place behind it; -1: nothing and no token does.
func front(src string, at int) (int, int) {
	switch {
	case strings.HasPrefix(src[at:], "(;"):
		return 0, comment(src, at)
	case src[at] == '(':
		return api.TkOpen, at + 1
	}
	for _, f := range forms {
		if part := f.form.FindString(src[at:]); part != "" {
			return f.kind, at + len(part)
		}
	}
	return 0, -1
}

// scan is the chapter's reading once more: all tokens, or the fault (code 0: there is none).
func scan(src string) (l []api.Token, code api.Code, at int) {
	for at < len(src) {
		kind, next := front(src, at)
		if next < 0 {
			return nil, api.ErrForm, at
		}
		if kind != 0 && len(l) == 4096 {
			return nil, api.ErrLarge, at
		}
		part := src[at:next]
		switch kind {
		case api.TkOpen, api.TkClose:
			l = append(l, api.Token{Kind: kind, At: at})
		case api.TkText:
			l = append(l, text(at, part[1:len(part)-1]))
		case api.TkAtom:
			l = append(l, atom(at, part))
		}
		at = next
	}
	return l, 0, 0
}

// check holds the program against the reading above, and tells whether the text is good.
func check(t *testing.T, src string) bool {
	t.Helper()
	l, code, at := scan(src)
	if code != 0 {
		checkFault(t, src, code, at)
		return false
	}
	checkScan(t, src, l...)
	return true
}

// written is how a token is written.
func written(x api.Token) string {
	switch x.Kind {
	case api.TkOpen:
		return "("
	case api.TkClose:
		return ")"
	case api.TkText:
		return `"` + x.Text + `"`
	}
	return x.Text
}

// checkAgain holds P9.2's first half of a good text.
func checkAgain(t *testing.T, src string) {
	t.Helper()
	l, err := lex.Scan(src)
	if err != nil {
		t.Errorf("Scan(%q): %v", brief(src), err)
		return
	}
	var parts []string
	at := 0
	for i := range l {
		part := written(l[i])
		parts = append(parts, part)
		l[i].At = at
		at += len(part) + 1
	}
	checkScan(t, strings.Join(parts, " "), l...)
}

// checkBoth holds P9.2's second half of two good texts.
func checkBoth(t *testing.T, a, b string) {
	t.Helper()
	l, err := lex.Scan(a)
	k, err2 := lex.Scan(b)
	if err != nil || err2 != nil {
		t.Errorf("%q: %v, %q: %v", brief(a), err, brief(b), err2)
		return
	}
	for i := range k {
		k[i].At += len(a) + 1
	}
	if both := slices.Concat(l, k); len(both) <= 4096 {
		checkScan(t, a+"\n"+b, both...)
	} else {
		checkFault(t, a+"\n"+b, api.ErrLarge, both[4096].At)
	}
}

// runs calls f with all runs of up to n of these bytes, while nothing fails.
func runs(t *testing.T, n int, alphabet string, f func(src string)) {
	run := make([]byte, 0, n)
	var grow func()
	grow = func() {
		f(string(run))
		if len(run) == n || t.Failed() {
			return
		}
		for _, c := range []byte(alphabet) {
			run = append(run, c)
			grow()
			run = run[:len(run)-1]
		}
	}
	grow()
}

// P9.1, P9.2: all short runs of bytes that are there to be told apart.
func TestShortRuns(t *testing.T) {
	for _, r := range []struct {
		n        int
		alphabet string
	}{
		{5, "();\"\\a \n,"}, {4, "();\"\\a$0 \t\n\r,\x00\x1f\x7f\x80\xff"}, {9, "(;)"}, {8, "();a"}, {7, "\"\\a\x1f"}, {7, "; \na\r"},
	} {
		good := 0
		runs(t, r.n, r.alphabet, func(src string) {
			if check(t, src) {
				good++
				checkAgain(t, src)
			}
		})
		if good < 300 {
			t.Errorf("of %q only %d are good", r.alphabet, good)
		}
	}
}

// P9.2: all pairs of short good texts.
func TestShortPairs(t *testing.T) {
	var good []string
	runs(t, 4, "();\"\\a\n", func(src string) {
		if _, err := lex.Scan(src); err == nil {
			good = append(good, src)
		}
	})
	if len(good) < 300 {
		t.Errorf("only %d are good", len(good))
	}
	for _, a := range good {
		for _, b := range good {
			checkBoth(t, a, b)
		}
		if t.Failed() {
			return
		}
	}
}

// maker makes texts at chance.
type maker struct{ *rand.Rand }

func (m maker) one(l ...string) string { return l[m.Intn(len(l))] }

func (m maker) many(n int, each func() string) string {
	var s strings.Builder
	for range m.Intn(n) {
		s.WriteString(each())
	}
	return s.String()
}

func (m maker) anyByte() string { return string([]byte{byte(m.Intn(0x100))}) }

func (m maker) comment(depth int) string {
	return "(;" + m.many(5, func() string {
		if depth > 0 && m.Intn(3) == 0 {
			return m.comment(depth - 1)
		}
		return m.one("a", " ", "\n", ";;", ")", "( ", "\"", "\\", "\x00", "[", "\xff")
	}) + " ;)"
}

// part is a token, or nothing.
func (m maker) part() string {
	switch m.Intn(8) {
	case 0:
		return "("
	case 1:
		return ")"
	case 2:
		return `"` + m.many(6, func() string {
			return m.one("a", " ", `\"`, `\\`, `\n`, `\u{20ac}`, "é", "\xff", "(;", ";)", ";;")
		}) + `"`
	case 3, 4:
		return m.many(6, func() string { return string(atomBytes[m.Intn(len(atomBytes))]) })
	case 5:
		return m.comment(3)
	case 6:
		return ";;" + m.many(5, func() string { return m.one("a", "(;", ";)", "\"", "\r", "\x01") }) + "\n"
	}
	return m.one(" ", "\t", "\n", "\r")
}

// spoilt changes a text at some places.
func (m maker) spoilt(src string) string {
	for range m.Intn(4) {
		at := m.Intn(len(src) + 1)
		switch rest := src[at:]; {
		case m.Intn(2) == 0 || rest == "":
			src = src[:at] + m.one("(", ")", ";", `"`, `\`, "\n", "[", "\x1f", "\x7f", m.anyByte()) + rest
		default:
			src = src[:at] + rest[1:]
		}
	}
	return src
}

// P9.1, P9.2: texts at chance, whole and spoilt.
func TestChance(t *testing.T) {
	m := maker{rand.New(rand.NewSource(9))}
	good, last := 0, ""
	const tries = 30000
	for range tries {
		src := m.many(30, m.part)
		if m.Intn(2) == 0 {
			src = m.spoilt(src)
		}
		if check(t, src) {
			good++
			checkAgain(t, src)
			checkBoth(t, last, src)
			checkBoth(t, src, last)
			last = src
		}
		if t.Failed() {
			return
		}
	}
	if good < tries/3 || good > tries*9/10 {
		t.Errorf("%d of %d are good", good, tries)
	}
}

// P9.2: as many tokens as there may be, written again; and two texts that have so many, or one more, together.
func TestManyAgain(t *testing.T) {
	full := strings.Repeat(`(a"b")`, 1024)
	checkAgain(t, full)
	checkBoth(t, full, "")
	checkBoth(t, "", full)
	checkBoth(t, full+";; a", "(; b ;)")
	checkBoth(t, full[:6*512], full[6*512:])
	checkBoth(t, full, ")")
	checkBoth(t, "a ;;", full)
	checkBoth(t, full, full)
}

// P9.2: a text's last line may be a comment, and its last atom go up to its end.
func TestTwoTexts(t *testing.T) {
	checkScan(t, "a;;b\nc", atom(0, "a"), atom(5, "c"))
	checkScan(t, "a\nb", atom(0, "a"), atom(2, "b"))
	checkScan(t, "(\n;;", open(0))
	checkScan(t, "\n")
	for _, a := range []string{"", "a", "(", ")", `""`, ";;", "a;;", "(;;)", ";;(;", "(module ;; \""} {
		for _, b := range []string{"", "a", "(", ")", `""`, ";;", ";;a", "(;;)", ";;;)", "$x)"} {
			checkBoth(t, a, b)
		}
	}
}
