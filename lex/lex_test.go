package lex_test

import (
	"fmt"
	"slices"
	"strings"
	"testing"
	"unsafe"

	"grommet/api"
	"grommet/lex"
)

// atomBytes are what an atom may have, as the chapter lists them.
const atomBytes = "abcdefghijklmnopqrstuvwxyzABCDEFGHIJKLMNOPQRSTUVWXYZ0123456789" + "!#$%&'*+-./:<=>?@\\^_`|~"

func open(at int) api.Token   { return api.Token{Kind: api.TkOpen, At: at} }
func closed(at int) api.Token { return api.Token{Kind: api.TkClose, At: at} }

func text(at int, s string) api.Token { return api.Token{Kind: api.TkText, At: at, Text: s} }
func atom(at int, s string) api.Token { return api.Token{Kind: api.TkAtom, At: at, Text: s} }

// brief is as much of it as helps the eye.
func brief(src string) string {
	if len(src) > 120 {
		return src[:60] + " .. " + src[len(src)-60:]
	}
	return src
}

// show tells as much of tokens as helps the eye.
func show(l []api.Token) string {
	s := fmt.Sprint(len(l), ":")
	for _, x := range l[:min(len(l), 8)] {
		s += fmt.Sprintf(" %d at %d %q", x.Kind, x.At, brief(x.Text))
	}
	return s
}

func checkScan(t *testing.T, src string, want ...api.Token) {
	t.Helper()
	l, err := lex.Scan(src)
	if err != nil || !slices.Equal(l, want) {
		t.Errorf("Scan(%q) = %s, %v; not %s", brief(src), show(l), err, show(want))
	}
}

// checkFault holds that it is a Spot at that place, whose Err is the Code itself, and that nothing else is told.
func checkFault(t *testing.T, src string, want api.Code, at int) {
	t.Helper()
	l, err := lex.Scan(src)
	s, ok := err.(*api.Spot)
	if !ok || s.Err != error(want) || s.At != at || len(l) != 0 {
		t.Errorf("Scan(%q) = %d, %v; not error %d at %d", brief(src), len(l), err, want, at)
	}
}

// P9.1: what is scanned is as the chapter has it.
func TestGood(t *testing.T) {
	for _, g := range []struct {
		src  string
		want []api.Token
	}{
		{"", nil},
		{" \t\n\r", nil},
		{"(", []api.Token{open(0)}},
		{")", []api.Token{closed(0)}},
		{")(", []api.Token{closed(0), open(1)}},
		{"()", []api.Token{open(0), closed(1)}},
		{" ( \n ) ", []api.Token{open(1), closed(5)}},
		{"a", []api.Token{atom(0, "a")}},
		{"a b\tc\nd\re", []api.Token{atom(0, "a"), atom(2, "b"), atom(4, "c"), atom(6, "d"), atom(8, "e")}},
		{"(module $m)", []api.Token{open(0), atom(1, "module"), atom(8, "$m"), closed(10)}},
		{"i32.const -0x8000_0000", []api.Token{atom(0, "i32.const"), atom(10, "-0x8000_0000")}},
		{atomBytes, []api.Token{atom(0, atomBytes)}},
		{`""`, []api.Token{text(0, "")}},
		{` "a b" `, []api.Token{text(1, "a b")}},
		{`"(;"";;"")"`, []api.Token{text(0, "(;"), text(4, ";;"), text(8, ")")}},
		{`"é€😀"`, []api.Token{text(0, "é€😀")}},
		// What stands side by side, and needs nothing between.
		{`a"b"c`, []api.Token{atom(0, "a"), text(1, "b"), atom(4, "c")}},
		{`a(b)c`, []api.Token{atom(0, "a"), open(1), atom(2, "b"), closed(3), atom(4, "c")}},
		{`("a""b")`, []api.Token{open(0), text(1, "a"), text(4, "b"), closed(7)}},
		{"((a))", []api.Token{open(0), open(1), atom(2, "a"), closed(3), closed(4)}},
		{"a;;b\nc", []api.Token{atom(0, "a"), atom(5, "c")}},
		{"a(;b;)c", []api.Token{atom(0, "a"), atom(6, "c")}},
		{"((;;))", []api.Token{open(0), closed(5)}},
		// The chapter's example.
		{`(a "b\"c");; d`, []api.Token{open(0), atom(1, "a"), text(3, `b\"c`), closed(9)}},
	} {
		checkScan(t, g.src, g.want...)
	}
}

// P9.1: of each byte, alone and between others, whether it is nothing, a token, or begins none.
func TestBytes(t *testing.T) {
	for i := range 0x100 {
		c := string([]byte{byte(i)})
		switch {
		case strings.Contains(" \t\n\r", c):
			checkScan(t, c)
			checkScan(t, "a"+c+"b", atom(0, "a"), atom(2, "b"))
			checkScan(t, c+c+"("+c, open(2))
		case c == "(":
			checkScan(t, "a(b", atom(0, "a"), open(1), atom(2, "b"))
		case c == ")":
			checkScan(t, "a)b", atom(0, "a"), closed(1), atom(2, "b"))
		case c == `"`:
			checkFault(t, c, api.ErrForm, 0)
			checkFault(t, `a"b`, api.ErrForm, 1)
		case strings.Contains(atomBytes, c):
			checkScan(t, c, atom(0, c))
			checkScan(t, "a"+c+"b", atom(0, "a"+c+"b"))
			checkScan(t, c+c+" "+c, atom(0, c+c), atom(3, c))
			checkScan(t, "("+c+")", open(0), atom(1, c), closed(2))
			checkScan(t, `""`+c+`""`, text(0, ""), atom(2, c), text(3, ""))
		default:
			checkFault(t, c, api.ErrForm, 0)
			checkFault(t, "a"+c+"b", api.ErrForm, 1)
			checkFault(t, "a "+c, api.ErrForm, 2)
			checkFault(t, "( "+c+")", api.ErrForm, 2)
			checkFault(t, `""`+c, api.ErrForm, 2)
			checkFault(t, ";;\n"+c, api.ErrForm, 3)
			checkFault(t, "(;;)"+c, api.ErrForm, 4)
		}
	}
	// A byte order mark, and blanks of other alphabets, are none.
	for _, src := range []string{"\xef\xbb\xbf(module)", "\u00a0a", "\u2028", "é", "\U0001f600"} {
		checkFault(t, src, api.ErrForm, 0)
	}
	// One semicolon alone begins nothing.
	for _, src := range []string{"a;", "a;b", "a; ;", "a;\n;", "a;)", "a;(;;)", "a;\"", "(; )", "( ;)"} {
		at := strings.Index(src, ";")
		if strings.HasPrefix(src, "(;") {
			at = 0
		}
		checkFault(t, src, api.ErrForm, at)
	}
}

// P9.1: an atom has as many bytes as there are.
func TestAtoms(t *testing.T) {
	for _, s := range []string{"a", "$", "$x", "0", "-1", "+0x1F", "1_000", "nan:0x7", "offset=4", "i64.load8_u", "\\", "\\\\", "~!@#$%^&*", "'a'", "`", "|"} {
		checkScan(t, s, atom(0, s))
		checkScan(t, "("+s+")", open(0), atom(1, s), closed(1+len(s)))
		checkScan(t, " "+s+" "+s, atom(1, s), atom(2+len(s), s))
		checkScan(t, s+`"`+`"`+s, atom(0, s), text(len(s), ""), atom(len(s)+2, s))
		checkScan(t, s+";;"+s+"\n"+s, atom(0, s), atom(2*len(s)+3, s))
		checkScan(t, s+"(;"+s+";)"+s, atom(0, s), atom(2*len(s)+4, s))
		for _, c := range []string{",", ";", "[", "]", "{", "}", "\x00", "\x7f", "\x80", "\v", "\f", "é"} {
			checkFault(t, s+c+s, api.ErrForm, len(s))
		}
	}
	long := strings.Repeat(atomBytes, 20000)
	checkScan(t, long+" a", atom(0, long), atom(len(long)+1, "a"))
}

// P9.1: which bytes a string may have, as they are and behind a backslash, in front, amidst and behind.
func TestStringBytes(t *testing.T) {
	checkString := func(s string, may bool) {
		quoted := `"` + s + `"`
		if may {
			checkScan(t, "a "+quoted+"b", atom(0, "a"), text(2, s), atom(2+len(quoted), "b"))
		} else {
			checkFault(t, "a "+quoted+"b", api.ErrForm, 2)
		}
	}
	for i := range 0x100 {
		c := string([]byte{byte(i)})
		may := i >= 0x20 && i != 0x7f
		for _, ahead := range []string{"", "a", `\\`, "é"} {
			for _, behind := range []string{"", "b", `\\`, "é"} {
				checkString(ahead+`\`+c+behind, may)
				if c != `"` && c != `\` {
					checkString(ahead+c+behind, may)
				}
			}
		}
	}
}

// P9.1: where a string ends: at a quote that no backslash takes for itself.
func TestStringEnds(t *testing.T) {
	for n := range 40 {
		slashes := strings.Repeat(`\`, n)
		if n%2 == 0 {
			checkScan(t, `"`+slashes+`"`, text(0, slashes))
			checkScan(t, `"`+slashes+`"a`, text(0, slashes), atom(n+2, "a"))
			checkFault(t, `"`+slashes+`"a"`, api.ErrForm, n+3)
		} else {
			checkFault(t, `"`+slashes+`"`, api.ErrForm, 0)
			checkFault(t, `"`+slashes+`"a`, api.ErrForm, 0)
			checkScan(t, `"`+slashes+`"a"`, text(0, slashes+`"a`))
		}
	}
	checkScan(t, `"\""`, text(0, `\"`))
	checkScan(t, `"\"\""`, text(0, `\"\"`))
	checkScan(t, `"\\" "\""`, text(0, `\\`), text(5, `\"`))
	checkScan(t, `"\u{20ac}\41\n"`, text(0, `\u{20ac}\41\n`))
	// What isn't an escape of literals is one here still.
	checkScan(t, `"\q\u{\("`, text(0, `\q\u{\(`))
	// Cut anywhere within a string, it isn't closed.
	whole := `(a "b\"c(;" d ";;\\")`
	for n := range whole {
		switch {
		case n > 3 && n <= 10:
			checkFault(t, whole[:n], api.ErrForm, 3)
		case n > 14 && n <= 19:
			checkFault(t, whole[:n], api.ErrForm, 14)
		default:
			check(t, whole[:n])
		}
	}
	// A fault within is told at the string's begin, and one that isn't closed is none of what stands in it.
	for _, src := range []string{`a "b`, `a "b\"`, `a "`, `a "\`, `a "\"`, `a "(; ;) b`, "a \"b\nc\"", "a \"b\rc\"", "a \"b\tc\"", "a \"\x7f", "a \"\\\n\"", "a \"b\x00\" \"", "a \"b\x1f\" [", "a \";; \n\""} {
		checkFault(t, src, api.ErrForm, 2)
	}
	long := strings.Repeat(`\"é`, 50000)
	checkScan(t, `"`+long+`"`, text(0, long))
	checkFault(t, `"`+long, api.ErrForm, 0)
	checkFault(t, `"`+long+"\x1f\"", api.ErrForm, 0)
}

// P9.1: what begins with two semicolons is nothing up to the next new line, whatever it is.
func TestLines(t *testing.T) {
	checkScan(t, ";;")
	checkScan(t, ";;\n")
	checkScan(t, "a;;", atom(0, "a"))
	checkScan(t, ";;\na", atom(3, "a"))
	checkScan(t, ";;;\na", atom(4, "a"))
	checkScan(t, ";;;;;;b\na;;b", atom(8, "a"))
	// A return ends no line.
	checkScan(t, ";;\ra")
	checkScan(t, ";;\r\na", atom(4, "a"))
	checkScan(t, ";; \u2028a\u0085b\vc\fd")
	for i := range 0x100 {
		c := string([]byte{byte(i)})
		if c == "\n" {
			continue
		}
		checkScan(t, "a;;"+c+"b\nc", atom(0, "a"), atom(6, "c"))
		checkScan(t, "a;;b"+c, atom(0, "a"))
	}
	// Nothing in it begins anything.
	checkScan(t, ";; (; \" ;) \\\na", atom(13, "a"))
	checkScan(t, "(;;)a", atom(4, "a"))
	checkScan(t, ";;(;\na", atom(5, "a"))
	checkFault(t, ";;(;\na;)", api.ErrForm, 6)
	checkFault(t, ";;\"\na\"", api.ErrForm, 5)
	checkFault(t, "; ;", api.ErrForm, 0)
	// Behind a ( they begin a line only where a blank stands between.
	checkScan(t, "( ;;a\nb", open(0), atom(6, "b"))
	checkFault(t, "(;;a\nb", api.ErrForm, 0)
	checkScan(t, "a"+strings.Repeat(";; b (; \"\n", 50000)+"c", atom(0, "a"), atom(1+10*50000, "c"))
}

// P9.1: comments between ( ; and ; ), that may stand in one another.
func TestComments(t *testing.T) {
	for _, c := range []string{
		"(;;)", "(;;;)", "(;;;;)", "(; ;)", "(;a;)", "(;\n\t\r;)", "(;);)", "(;(;)", "(;;);)", "(; ( ;)", "(; ) ;)", "(; ; ;)", "(;;a;)", "(;;\n;)", "(;;;a;;;)",
		"(;\";)", "(;\\;)", "(;\\;;)", "(;\x00\x7f\x80\xff,[;)", "(;é€;)", "(;();)", "(;)(;)", "(; ;; ;)",
		"(;(;;);)", "(;(;;)(;;);)", "(;(;(;;););)", "(; a (; b ;) c (; d (; e ;) f ;) g ;)", "(;((;;););)", "(;(;);););)",
	} {
		switch n := comment(c, 0); {
		case n < 0:
			checkFault(t, c, api.ErrForm, 0)
			checkFault(t, "a"+c+"b", api.ErrForm, 1)
		case n == len(c):
			checkScan(t, c)
			checkScan(t, "a"+c+"b", atom(0, "a"), atom(1+n, "b"))
			checkScan(t, "("+c+")", open(0), closed(1+n))
			checkScan(t, c+c+`""`, text(2*n, ""))
			checkScan(t, "(;"+c+";)a", atom(n+4, "a"))
			checkFault(t, "(;"+c+"a", api.ErrForm, 0)
			checkFault(t, c+";)", api.ErrForm, n)
			for cut := 2; cut < n; cut++ {
				checkFault(t, "a "+c[:cut], api.ErrForm, 2)
			}
		default:
			check(t, c)
		}
	}
	// By hand, those on which the helper above could be wrong as the program is.
	checkScan(t, "(;;)")
	checkScan(t, "(;);)")
	checkScan(t, "(;;;)")
	checkScan(t, "(;(;;);)")
	checkScan(t, "(; ;; ;) a", atom(9, "a"))
	checkScan(t, "(;\";)\"\"", text(5, ""))
	checkFault(t, "(;)", api.ErrForm, 0)
	checkFault(t, "(;)a", api.ErrForm, 0)
	checkFault(t, "a (;)", api.ErrForm, 2)
	checkFault(t, "(;(;)", api.ErrForm, 0)
	checkFault(t, "(;(;);)", api.ErrForm, 0)
	checkFault(t, "(;(;;)", api.ErrForm, 0)
	checkFault(t, "(;(;;) (;", api.ErrForm, 0)
	checkFault(t, "(;;);)", api.ErrForm, 4)
	checkFault(t, "(;(;;););)", api.ErrForm, 8)
	checkFault(t, ";)", api.ErrForm, 0)
	checkFault(t, "(;;)(;", api.ErrForm, 4)
	checkFault(t, "(; [ \" \x00", api.ErrForm, 0)
	checkFault(t, "(;\n;; ;\n)", api.ErrForm, 0)
}

// P9.1, P1: comments may stand in one another as deep as they like.
func TestDeepComments(t *testing.T) {
	const n = 3_000_000
	deep := strings.Repeat("(;", n)
	flat := strings.Repeat(";)", n)
	checkScan(t, deep+flat+"a", atom(4*n, "a"))
	checkScan(t, strings.Repeat("(;;)", n)+"a", atom(4*n, "a"))
	checkFault(t, "a"+deep+flat[2:], api.ErrForm, 1)
	checkFault(t, deep, api.ErrForm, 0)
	checkFault(t, deep+flat+";)", api.ErrForm, 4*n)
	checkFault(t, strings.Repeat("(;;)", n)+";)", api.ErrForm, 4*n)
}

// P9.1: of several faults the one that stands first.
func TestFirstFault(t *testing.T) {
	for _, f := range []struct {
		src string
		at  int
	}{
		{"a [ \"", 2}, {"a \" [", 2}, {"[ (;", 0}, {"(; [", 0}, {"a ; \"b", 2}, {"a \"b ;", 2}, {"\"\x01\" [", 0}, {"[ \"\x01\"", 0},
		{"\"a\" \"b", 4}, {"(;a;) (;b", 6}, {"a (; \" ;) \"", 10}, {"a \"(;\" (;", 7}, {"a;b;c", 1}, {"a\x80\x81", 1}, {"\"a\"\"b", 3}, {"\"a\n\"b\"", 0},
	} {
		checkFault(t, f.src, api.ErrForm, f.at)
	}
}

// P9.1: 4096 tokens are told, and one more is too many at its place.
func TestMany(t *testing.T) {
	for _, each := range []api.Token{open(0), closed(0), text(0, ""), text(0, "a\\\"b"), atom(0, "a"), atom(0, "i32.add")} {
		part := written(each) + " "
		full := strings.Repeat(part, 4096)
		var want []api.Token
		for i := range 4096 {
			each.At = i * len(part)
			want = append(want, each)
		}
		most := len(full) - len(part)
		checkScan(t, full, want...)
		checkScan(t, full[:len(full)-1], want...)
		checkScan(t, full[:most], want[:4095]...)
		// What is nothing may follow.
		for _, behind := range []string{" ", "\n\n\n", ";; a", "(; a ;)", " ;;\n(;(;;);) "} {
			checkScan(t, full+behind, want...)
		}
		for _, more := range []string{"(", ")", `""`, `"a"`, "a", "0", part, part + part, part + `"`, part + "[", part + "(;", "(a", "()", `a"`, "a["} {
			checkFault(t, full+more, api.ErrLarge, len(full))
			checkFault(t, full+"(;;)\n;; a\n"+more, api.ErrLarge, len(full)+10)
		}
		// What is no token is none too many, and a fault ahead comes first.
		for _, odd := range []string{`"`, `"a`, "\"\x1f", "(;", "(;)", ";", "[", "\x80", ";)"} {
			checkFault(t, full+odd, api.ErrForm, len(full))
			checkFault(t, full[:most]+odd, api.ErrForm, most)
		}
		for _, odd := range []string{"; ", "[", "\x80", ";)", "\"\x1f\""} {
			checkFault(t, full[:most]+odd+full, api.ErrForm, most)
			checkFault(t, odd+full+full, api.ErrForm, 0)
		}
		checkFault(t, full+full, api.ErrLarge, len(full))
	}
	// Side by side they count as well.
	checkFault(t, strings.Repeat("(", 1_000_000), api.ErrLarge, 4096)
	checkFault(t, strings.Repeat(`""`, 4097), api.ErrLarge, 8192)
	checkFault(t, strings.Repeat(`(a"b")`, 1024)+"a", api.ErrLarge, 6*1024)
}

// P9.1: what is told is new memory, which keeps nothing of the text, and hangs on no other answer.
func TestNewMemory(t *testing.T) {
	src := strings.Clone(`(aa "bb" cc "\"" d "e" "")`)
	l, err := lex.Scan(src)
	other, _ := lex.Scan(src)
	if err != nil || len(l) != 9 {
		t.Fatal(l, err)
	}
	for _, x := range l {
		if inside(src, x.Text) {
			t.Errorf("%q is a piece of the text", x.Text)
		}
	}
	want := slices.Clone(l)
	for i := range l {
		l[i] = api.Token{}
	}
	_ = append(l, open(99))
	if !slices.Equal(other, want) {
		t.Error("it hangs on another answer:", other)
	}
	checkScan(t, src, want...)
	_, err = lex.Scan("[")
	s := err.(*api.Spot)
	s.At, s.Err = 99, api.ErrTrap
	checkFault(t, "[", api.ErrForm, 0)
}

// inside tells whether part's bytes stand where the whole's do.
func inside(whole, part string) bool {
	if part == "" {
		return false
	}
	first := uintptr(unsafe.Pointer(unsafe.StringData(whole)))
	at := uintptr(unsafe.Pointer(unsafe.StringData(part)))
	return at >= first && at < first+uintptr(len(whole))
}
