package name

import (
	"fmt"
	"slices"
	"strings"
	"testing"
	"unicode/utf8"
)

// part is a rune of a text, or a broken byte of it.
type part struct {
	r      rune
	broken bool
	bytes  string
}

// parts takes a text apart by a decoder instead of a range.
func parts(s string) []part {
	var l []part
	for len(s) > 0 {
		r, n := utf8.DecodeRuneInString(s)
		l = append(l, part{r, r == utf8.RuneError && n == 1, s[:n]})
		s = s[n:]
	}
	return l
}

// isName is Valid as the chapter's words say it.
func isName(s string) bool {
	l := parts(s)
	if len(l) < 1 || len(l) > 24 || l[0].r == 32 || l[len(l)-1].r == 32 {
		return false
	}
	return !slices.ContainsFunc(l, func(p part) bool {
		return p.broken || p.r < 32 || p.r == 47 || p.r >= 127 && p.r <= 159 || p.r == 65533
	})
}

// shown is Quote as the chapter's words say it.
func shown(s string) string {
	t := `"`
	for _, p := range parts(s) {
		switch {
		case p.bytes == `"`:
			t += `\"`
		case p.bytes == `\`:
			t += `\\`
		case p.r == 10:
			t += `\n`
		case p.r >= 32 && p.r != 127 && !p.broken:
			t += p.bytes
		default:
			t += fmt.Sprintf(`\x%02x`, p.bytes[0])
		}
	}
	return t + `"`
}

// places are what Less goes by, as the chapter's words say it.
func places(s string) []int {
	var l []int
	for _, p := range parts(s) {
		if p.broken {
			l = append(l, 1114112+int(p.bytes[0]))
		} else {
			l = append(l, int(p.r))
		}
	}
	return l
}

// texts is every text of at most so many of the pieces.
func texts(most int, pieces ...string) []string {
	all, last := []string{""}, []string{""}
	for range most {
		var longer []string
		for _, s := range last {
			for _, p := range pieces {
				longer = append(longer, s+p)
			}
		}
		all, last = append(all, longer...), longer
	}
	return all
}

// brokenOnes have bytes that begin no rune: too few, too many, too long a form, half a pair, beyond the last rune.
func brokenOnes() []string {
	return []string{
		"\x80", "\xbf", "\xff", "\xfe\xff", "\xc3", "a\xc3", "\xc3a", "\xe6\x97", "\xe6\x97a", "\xa5\xe6\x97\xa5", "\xf0\x9f\x97", "\xf0\x9f\x97\xbf\xbf",
		"\xc0\xaf", "\xc1\xbf", "\xe0\x80\xaf", "\xed\xa0\x80", "\xed\xbf\xbf", "\xf4\x90\x80\x80", "\xf5\x80\x80\x80", "\xef\xbf", "\xef\xbf\xef\xbf\xbd", "\xbd\ufffd\xef",
	}
}

func eachRune(do func(r rune, s string)) {
	for r := rune(0); r <= utf8.MaxRune; r++ {
		if utf8.ValidRune(r) {
			do(r, string(r))
		}
	}
}

func TestCount(t *testing.T) {
	for s, want := range map[string]int{
		"": 0, "a": 1, "\x00": 1, "\u00e9": 1, "\u65e5": 1, "\U0001f5ff": 1, "a\u00e9\u65e5\U0001f5ff": 4, "\ufffd": 1,
		"\x80": 1, "\xff\xfe": 2, "\xc3": 1, "\xc3\xc3\xa9": 2, "\xe6\x97": 2, "\xe6\x97a": 3, "\xe6\x97\xa5\xa5": 2,
		"\xf0\x9f\x97": 3, "\xed\xa0\x80": 3, "\xc0\x80": 2, "\xf4\x90\x80\x80": 4, "\ufffd\xff\ufffd": 3,
		strings.Repeat("\u65e5", 5000): 5000, strings.Repeat("\xff", 5000): 5000,
	} {
		if got := Count(s); got != want {
			t.Errorf("Count(%q) = %d, want %d", s, got, want)
		}
	}
}

func TestValid(t *testing.T) {
	for _, s := range []string{
		"a", "!", "~", "\u00a0", "\u00e9", "\u65e5", "\ufffc", "\ufffe", "\uffff", "\U00010000", "\U0001f5ff", "\U0010ffff", "\u2028", "\u200b",
		"a b", "a  b", "\u00a0a\u00a0", "\"", "\\", ".", "..", "caf\u00e9 \U0001f5ff",
		strings.Repeat("a", 24), strings.Repeat("\u65e5", 24), strings.Repeat("\U0001f5ff", 24), "a" + strings.Repeat(" ", 22) + "a",
	} {
		if !Valid(s) {
			t.Errorf("%q is no name", s)
		}
	}
}

func TestValidOfNone(t *testing.T) {
	for _, s := range append(brokenOnes(),
		"", " ", "  ", " a", "a ", " a ", "/", "/a", "a/b", "a/", "\x1f", "a\x1fb", "\x00", "a\nb", "\x7f", "a\x7fb", "\u0080", "\u0085", "\u009f", "a\u009fb", "\ufffd", "a\ufffdb",
		strings.Repeat("a", 25), strings.Repeat("\u65e5", 25), strings.Repeat("a", 23)+" ", strings.Repeat("a", 24)+" ", strings.Repeat("a", 23)+"\xff", strings.Repeat("a", 1<<16),
	) {
		if Valid(s) {
			t.Errorf("%q is a name", s)
		}
	}
}

func TestValidOfEachRune(t *testing.T) {
	eachRune(func(r rune, s string) {
		for _, s := range []string{s, s + "a", "a" + s, "a" + s + "a"} {
			if got := Valid(s); got != isName(s) {
				t.Errorf("Valid(%q) = %v", s, got)
			}
		}
	})
}

func TestValidOfEachByteAndLength(t *testing.T) {
	for b := range 256 {
		one := string([]byte{byte(b)})
		for n := range 27 {
			for at := range n + 1 {
				s := strings.Repeat("\u00e9", at) + one + strings.Repeat("z", n-at)
				if got := Valid(s); got != isName(s) {
					t.Errorf("Valid(%q) = %v", s, got)
				}
			}
		}
	}
}

func TestExample(t *testing.T) {
	if got := Quote("a\"b"); got != `"a\"b"` {
		t.Error(got)
	}
}

func TestQuote(t *testing.T) {
	for s, want := range map[string]string{
		"": `""`, "a": `"a"`, "\"": `"\""`, "\\": `"\\"`, "\n": `"\n"`, "\\n": `"\\n"`, "n": `"n"`, "\\\"": `"\\\""`, "\\x41": `"\\x41"`,
		"\x00": `"\x00"`, "\t": `"\x09"`, "\x0b": `"\x0b"`, "\r": `"\x0d"`, "\x1f": `"\x1f"`, " ": `" "`, "'": `"'"`, "/": `"/"`, "~": `"~"`, "\x7f": `"\x7f"`,
		"\u0080": "\"\u0080\"", "\u0085": "\"\u0085\"", "\u00e9": "\"\u00e9\"", "\u2028": "\"\u2028\"", "\U0001f5ff": "\"\U0001f5ff\"", "\U0010ffff": "\"\U0010ffff\"",
		"\x80": `"\x80"`, "\xff": `"\xff"`, "\xff\u00e9\xc3": "\"\\xff\u00e9\\xc3\"", "\xe6\x97a": `"\xe6\x97a"`, "\xed\xa0\x80": `"\xed\xa0\x80"`,
		"\ufffd": "\"\ufffd\"", "\xef\xbf": `"\xef\xbf"`, "\ufffd\xff\ufffd": "\"\ufffd\\xff\ufffd\"", "\xef\xbf\ufffd\xbd": "\"\\xef\\xbf\ufffd\\xbd\"",
	} {
		if got := Quote(s); got != want {
			t.Errorf("Quote(%q) = %s, want %s", s, got, want)
		}
		if got, ok := Unquote(want); got != s || !ok {
			t.Errorf("Unquote(%s) = %q, %v", want, got, ok)
		}
	}
}

// holdQuote holds a text's Quote against the chapter's words, and unquotes it again.
func holdQuote(t *testing.T, s string) {
	t.Helper()
	q := Quote(s)
	if q != shown(s) {
		t.Errorf("Quote(%q) = %s, want %s", s, q, shown(s))
	}
	if got, ok := Unquote(q); got != s || !ok {
		t.Errorf("Unquote(%s) = %q, %v", q, got, ok)
	}
}

func TestQuotedIsUnquotedAgain(t *testing.T) {
	eachRune(func(r rune, s string) { holdQuote(t, s) })
	for b := range 256 {
		for _, s := range []string{"", "a", "\\", "\"", "\xe6", "\xe6\x97", "\xf0\x9f\x97", "\u00e9"} {
			holdQuote(t, s+string([]byte{byte(b)}))
			holdQuote(t, string([]byte{byte(b)})+s)
		}
	}
	for _, s := range brokenOnes() {
		holdQuote(t, s)
	}
	for _, s := range texts(4, "\"", "\\", "n", "x", "4", "f", "\n", "\x7f", "\xe6", "\x97", "\xa5", "\xff", "\ufffd") {
		holdQuote(t, s)
	}
	holdQuote(t, strings.Repeat("ab\"\\\n\x00\xff\u65e5", 5000))
}

func TestUnquoteOfNone(t *testing.T) {
	for _, s := range []string{
		"", "\"", "a", "\"a", "a\"", "ab", "'a'", "`a`", " \"a\"", "\"a\" ", "\"a\"\n", "\\", "\\\"", "\xff", "\u00e9",
		`"""`, `"a"b"`, `""a"`, `"a""`, `""""`, `"a\"`, `"\"`, `"\\\"`, `"\`, `"a\`, `"\ "`, `"\q"`, `"\a"`, `"\t"`, `"\r"`, `"\0"`, `"\'"`, `"\N"`, `"\u00e9"`, "\"\\\u00e9\"", "\"\\\n\"", "\"\\\xff\"",
		`"\x"`, `"\x0"`, `"\x4"`, `"\x0g"`, `"\xg0"`, `"\x 1"`, `"\x+1"`, `"\x0`, `"\x01`, `"\x0""`, `"\X01"`, `"\x0_1"`, "\"\\x0\u00e9\"", "\"\\x\u00e9\"",
		`"\xFF"`, `"\xfF"`, `"\xFf"`, `"\x0A"`, `"\x1F"`, `"\x7F"`,
		`"\x41"`, `"\x20"`, `"\x7e"`, `"\x0a"`, `"\x22"`, `"\x5c"`, `"\x6e"`,
		`"\xc3\xa9"`, `"\xe6\x97\xa5"`, `"\xf0\x9f\x97\xbf"`, `"\xef\xbf\xbd"`, `"\xc2\x85"`, `"\xff\xe6\x97\xa5"`, `"\xe6\xe6\x97\xa5"`,
		"\"\n\"", "\"\x00\"", "\"\t\"", "\"\x1f\"", "\"\x7f\"", "\"\xff\"", "\"\xc3\"", "\"\xe6\x97\"", "\"\xed\xa0\x80\"", "\"\\xe6\x97\\xa5\"", "\"a\xc3\"", "\xff\"\"", "\"\"\xff",
		strings.Repeat(`"`, 1<<16), strings.Repeat(`\`, 1<<16+1), `"` + strings.Repeat(`\`, 1<<16+1) + `"`,
	} {
		if got, ok := Unquote(s); got != "" || ok {
			t.Errorf("Unquote(%q) = %q, %v", s, got, ok)
		}
	}
}

func TestUnquoteOfEachByteTold(t *testing.T) {
	for b := range 256 {
		one := string([]byte{byte(b)})
		s := fmt.Sprintf(`"\x%02x"`, b)
		got, ok := Unquote(s)
		if want := shown(one) == s; ok != want || ok && got != one || !ok && got != "" {
			t.Errorf("Unquote(%s) = %q, %v", s, got, ok)
		}
	}
}

// TestUnquoteOnlyOfAQuote: that each Quote is unquoted is told elsewhere.
func TestUnquoteOnlyOfAQuote(t *testing.T) {
	for _, s := range texts(5, "\"", "\\", "n", "x", "c", "3", "C", "\n", "\xc3", "\xa9", "\ufffd") {
		for _, s := range []string{s, `"` + s + `"`, `"\xc3\x` + s} {
			if got, ok := Unquote(s); ok && shown(got) != s || !ok && got != "" {
				t.Errorf("Unquote(%q) = %q, %v", s, got, ok)
			}
		}
	}
}

func TestLess(t *testing.T) {
	inOrder := []string{
		"", "\x00", "\x00a", "\n", " ", "A", "Aa", "Ab", "Z", "a", "a\x00", "aa", "aaa", "ab", "a\u00e9", "a\xff", "b", "\x7f", "\u0080", "\u00e9", "\u00e9a", "\u65e5", "\u65e5\u672c", "\ud7ff", "\ue000",
		"\ufffc", "\ufffd", "\ufffda", "\ufffd\xff", "\ufffe", "\uffff", "\U00010000", "\U0001f5ff", "\U0010ffff", "\U0010ffff\xff",
		"\x80", "\x80a", "\x80\x80", "\xa5", "\xc3", "\xc3a", "\xc3\u00e9", "\xe6", "\xe6\u65e5", "\xe6\x97", "\xe6\x97a", "\xef", "\xf0", "\xff", "\xff\x00", "\xff\xfe", "\xff\xff",
	}
	for i, a := range inOrder {
		for k, b := range inOrder {
			if got := Less(a, strings.Clone(b)); got != (i < k) {
				t.Errorf("Less(%q, %q) = %v", a, b, got)
			}
		}
	}
}

func TestLessByEachRune(t *testing.T) {
	last := ""
	next := func(s string) {
		if !Less(last, s) || Less(s, last) || Less(s, s) || !Less(s, s+"\x00") || Less(s+"\x00", s) {
			t.Errorf("%q is not ahead of %q", last, s)
		}
		last = s
	}
	eachRune(func(r rune, s string) { next(s) })
	for b := 0x80; b <= 0xff; b++ {
		next(string([]byte{byte(b)}))
	}
}

// TestOneOrder: of two texts one is ahead, and it is as by what they are made of.
func TestOneOrder(t *testing.T) {
	l := texts(3, "a", "\u00e9", "\u65e5", "\ufffd", "\U0001f5ff", "\xe6", "\x97", "\xa5", "\xff")
	of := make([][]int, len(l))
	for i, s := range l {
		of[i] = places(s)
	}
	for i, a := range l {
		for k, b := range l {
			if got := Less(a, b); got != (slices.Compare(of[i], of[k]) < 0) || got && Less(b, a) || !got && a != b && !Less(b, a) {
				t.Fatalf("Less(%q, %q) = %v", a, b, got)
			}
		}
	}
}

func TestLessOfLongTexts(t *testing.T) {
	s := strings.Repeat("\u65e5\xff", 50000)
	for _, x := range []struct {
		a, b string
		want bool
	}{
		{s, s, false}, {s, s + "a", true}, {s + "a", s, false}, {s + "a", s + "b", true}, {s + "\xe6", s + "\u65e5", false}, {s + "\u65e5", s + "\xe6", true},
	} {
		if got := Less(x.a, x.b); got != x.want {
			t.Errorf("with %q and %q behind: %v", x.a[len(s):], x.b[len(s):], got)
		}
	}
}

func FuzzName(f *testing.F) {
	for _, s := range brokenOnes() {
		f.Add(s, "a"+s)
		f.Add(shown(s), `"`+s+`"`)
	}
	f.Add(`"\xe6\x97\xa5"`, "a ")
	f.Fuzz(func(t *testing.T, a, b string) {
		holdQuote(t, a)
		if got, ok := Unquote(a); ok && shown(got) != a || !ok && got != "" {
			t.Errorf("Unquote(%q) = %q, %v", a, got, ok)
		}
		if Count(a) != len(parts(a)) || Valid(a) != isName(a) {
			t.Errorf("%q: Count %d, Valid %v", a, Count(a), Valid(a))
		}
		if Less(a, b) != (slices.Compare(places(a), places(b)) < 0) {
			t.Errorf("Less(%q, %q) = %v", a, b, Less(a, b))
		}
	})
}
