package crc

import (
	"fmt"
	"hash/crc32"
	"strings"
	"testing"
)

// edges are numbers whose bits lie where a shift or a turn could go wrong.
func edges() []uint32 {
	l := []uint32{0, ^uint32(0), 0x7fffffff, 0x80000001, 0xedb88320, 0x12345678, 0xcbf43926}
	for i := range 32 {
		l = append(l, 1<<i)
	}
	return l
}

// everyByte is a text of all bytes, most of which are no UTF-8.
func everyByte() string {
	b := make([]byte, 256)
	for i := range b {
		b[i] = byte(i)
	}
	return string(b)
}

func texts() []string {
	return []string{
		"", "\x00", "\x00\x00\x00", "a", "ab", "123456789", "\xff", "\xff\xff\xff\xff",
		"caf\u00e9 \U0001f5ff", "\xc3", "\xed\xa0\x80", everyByte(), strings.Repeat("ab\x00", 700),
	}
}

// stepped is More as the chapter's words say it.
func stepped(c uint32, b string) uint32 {
	c = ^c
	for i := 0; i < len(b); i++ {
		c = Step(c, b[i])
	}
	return ^c
}

func TestExample(t *testing.T) {
	if got := Text(Of("123456789")); got != "cbf43926" {
		t.Error(got)
	}
}

func TestStep(t *testing.T) {
	for _, c := range edges() {
		for b := range 256 {
			want := crc32.IEEETable[byte(c)^byte(b)] ^ c>>8
			if got := Step(c, byte(b)); got != want {
				t.Fatalf("Step(%#x, %#x) = %#x, want %#x", c, b, got, want)
			}
		}
	}
}

func TestMoreOfNoBytes(t *testing.T) {
	for _, c := range edges() {
		if got := More(c, ""); got != c {
			t.Errorf("More(%#x, no bytes) = %#x", c, got)
		}
	}
	if got := Of(""); got != 0 {
		t.Errorf("Of no bytes = %#x", got)
	}
}

func TestMoreIsSteps(t *testing.T) {
	for _, s := range texts() {
		for _, c := range edges() {
			want := crc32.Update(c, crc32.IEEETable, []byte(s))
			if got := More(c, s); got != want || stepped(c, s) != want {
				t.Errorf("More(%#x, %q) = %#x, stepped %#x, want %#x", c, s, got, stepped(c, s), want)
			}
		}
		if got := Of(s); got != More(0, s) || got != crc32.ChecksumIEEE([]byte(s)) {
			t.Errorf("Of(%q) = %#x", s, got)
		}
	}
}

func TestTwoPartsAreAsAWhole(t *testing.T) {
	for _, s := range texts() {
		for i := range len(s) + 1 {
			if got := More(Of(s[:i]), s[i:]); got != Of(s) {
				t.Errorf("%q cut at %d: %#x, want %#x", s, i, got, Of(s))
			}
		}
		for _, c := range edges() {
			i := len(s) / 3
			if got := More(More(c, s[:i]), s[i:]); got != More(c, s) {
				t.Errorf("%q behind %#x cut at %d: %#x", s, c, i, got)
			}
		}
	}
}

func TestAnotherByteIsTold(t *testing.T) {
	for _, s := range []string{"\x00", "a", "123456789", "\xff\xff\xff\xff", "caf\u00e9", everyByte()} {
		for i := range len(s) {
			for x := range 256 {
				o := []byte(s)
				o[i] = byte(x)
				if same := Of(string(o)) == Of(s); same != (s[i] == byte(x)) {
					t.Fatalf("%q with %#x at %d: same check is %v", s, x, i, same)
				}
			}
		}
	}
}

func TestText(t *testing.T) {
	for c, want := range map[uint32]string{
		0: "00000000", 1: "00000001", 10: "0000000a", 0xf0000000: "f0000000",
		0x01234567: "01234567", 0x89abcdef: "89abcdef", ^uint32(0): "ffffffff",
	} {
		if got := Text(c); got != want {
			t.Errorf("Text(%#x) = %q, want %q", c, got, want)
		}
	}
	for _, c := range edges() {
		if got := Text(c); got != fmt.Sprintf("%08x", c) {
			t.Errorf("Text(%#x) = %q", c, got)
		}
	}
}

func TestNumberOfText(t *testing.T) {
	for _, c := range edges() {
		if got, ok := Number(Text(c)); got != c || !ok {
			t.Errorf("Number(%q) = %#x, %v", Text(c), got, ok)
		}
	}
}

func TestNumberOfAnyByteAtAnyPlace(t *testing.T) {
	for i := range 8 {
		for x := range 256 {
			b := []byte("cbf43926")
			b[i] = byte(x)
			got, ok := Number(string(b))
			isDigit := strings.IndexByte("0123456789abcdef", byte(x)) >= 0
			if ok != isDigit || ok && Text(got) != string(b) || !ok && got != 0 {
				t.Errorf("Number(%q) = %#x, %v", b, got, ok)
			}
		}
	}
}

func TestNumberOfNone(t *testing.T) {
	for _, s := range []string{
		"", "0", "cbf4392", "cbf439260", "0cbf43926", "00000000cbf43926",
		"CBF43926", "cbf4392F", "cbf4392g", "cbf4392G", "0xcbf439", "+0000001", "-0000001", "0000 000", " 0000000", "0000000\n", "0000_000",
		"000000\u00e9", "0000000\u00e9", "00000\u0661\u0661", "000000\u0661", "\uff11\uff11\uff11\uff11\uff11\uff11\uff11\uff11",
		"0000000\x00", "0000000\x80", "0000000\xff", "\xff\xff\xff\xff\xff\xff\xff\xff", "00000\ufffd", "0000\U0001f5ff",
		strings.Repeat("0", 1<<16),
	} {
		if got, ok := Number(s); got != 0 || ok {
			t.Errorf("Number(%q) = %#x, %v", s, got, ok)
		}
	}
}

func FuzzMore(f *testing.F) {
	for _, s := range texts() {
		f.Add(uint32(0), s, len(s)/2)
		f.Add(^uint32(0), s, 0)
	}
	f.Fuzz(func(t *testing.T, c uint32, s string, cut int) {
		want := crc32.Update(c, crc32.IEEETable, []byte(s))
		i := min(max(cut, 0), len(s))
		if More(c, s) != want || More(More(c, s[:i]), s[i:]) != want || stepped(c, s) != want {
			t.Errorf("%#x %q cut at %d: not %#x", c, s, i, want)
		}
	})
}

func FuzzNumber(f *testing.F) {
	for _, s := range []string{"", "cbf43926", "CBF43926", "0000000\u00e9", "\xff\xff\xff\xff\xff\xff\xff\xff"} {
		f.Add(s)
	}
	f.Fuzz(func(t *testing.T, s string) {
		c, ok := Number(s)
		if ok != (len(s) == 8 && strings.Trim(s, "0123456789abcdef") == "") {
			t.Errorf("Number(%q) = %#x, %v", s, c, ok)
		}
		if ok && Text(c) != s || !ok && c != 0 {
			t.Errorf("Number(%q) = %#x, %v", s, c, ok)
		}
	})
}
