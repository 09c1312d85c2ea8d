package wire

import (
	"encoding/binary"
	"hash/crc32"
	"math"
	"math/big"
	"strings"
	"testing"

	"cenotaph/api"
)

const top = 1 << 50

// numbers are those at which one more byte or bit is needed, and their neighbours.
func numbers() []int {
	l := []int{0, 1, 2, 300, 5000, 5001}
	for bit := 1; bit <= 50; bit++ {
		l = append(l, 1<<bit-1, 1<<bit)
		if bit < 50 {
			l = append(l, 1<<bit+1)
		}
	}
	return l
}

// varied is n bytes of all kinds, most of which are no UTF-8.
func varied(n int) string {
	b := make([]byte, n)
	for i := range b {
		b[i] = byte(7*i + i>>8 + 131)
	}
	return string(b)
}

func texts() []string {
	return []string{
		"", "\x00", "a", "ab", "\xff", "123456789", "caf\u00e9 \U0001f5ff", "\xc3", "\x80\x80\x80", "\x00\x00\x00\x00",
		varied(126), varied(127), varied(128), varied(129), varied(4999), varied(5000),
	}
}

// behind are bytes that may stand behind what is read, and none of which belongs to it.
func behind() []string {
	return []string{"", "\x00", "\x01", "x", "\x7f", "\x80", "\xff", "\x80\x00", "\x00\x00\x00\x00", "abc\xff\xff\xff\xff\xff", varied(300)}
}

func digests() []api.Digest {
	var ones, count api.Digest
	for i := range ones {
		ones[i] = 0xff
		count[i] = byte(i*8 + 5)
	}
	return []api.Digest{{}, ones, count, {31: 1}, {0: 0x10}, {1, 2, 31: 9}}
}

// each goes through every text of at most so many of the pieces.
func each(most int, pieces string, do func(s string)) {
	var grow func(s string)
	grow = func(s string) {
		do(s)
		if len(s) == most {
			return
		}
		for i := range len(pieces) {
			grow(s + pieces[i:i+1])
		}
	}
	grow("")
}

// everyByte is a text of all bytes.
func everyByte() string {
	b := make([]byte, 256)
	for i := range b {
		b[i] = byte(i)
	}
	return string(b)
}

// numOf is GetNum as the chapter's words say it.
func numOf(s string) (int, string, bool) {
	n := new(big.Int)
	for i := range len(s) {
		part := big.NewInt(int64(s[i] % 128))
		n.Add(n, part.Lsh(part, uint(7*i)))
		if s[i] >= 128 {
			continue
		}
		if n.Cmp(big.NewInt(top)) > 0 || i > 0 && s[i] == 0 {
			break
		}
		return int(n.Int64()), s[i+1:], true
	}
	return 0, "", false
}

// textOf is GetText as the chapter's words say it.
func textOf(s string, most int) (string, string, bool) {
	n, rest, ok := numOf(s)
	if !ok || n > most || n > len(rest) {
		return "", "", false
	}
	return rest[:n], rest[n:], true
}

// frameOf is GetFrame as the chapter's words say it.
func frameOf(s string) (string, string, bool) {
	t, rest, ok := textOf(s, 5000)
	if !ok || len(rest) < 4 || binary.LittleEndian.Uint32([]byte(rest)) != crc32.ChecksumIEEE([]byte(s[:len(s)-len(rest)])) {
		return "", "", false
	}
	return t, rest[4:], true
}

func holdNum(t *testing.T, s string) {
	t.Helper()
	got, rest, ok := GetNum(s)
	if want, wantRest, wantOK := numOf(s); got != want || rest != wantRest || ok != wantOK {
		t.Errorf("GetNum(%q) = %d, %q, %v, want %d, %q, %v", s, got, rest, ok, want, wantRest, wantOK)
	}
}

func holdText(t *testing.T, s string, most int) {
	t.Helper()
	got, rest, ok := GetText(s, most)
	if want, wantRest, wantOK := textOf(s, most); got != want || rest != wantRest || ok != wantOK {
		t.Errorf("GetText(%q, %d) = %q, %q, %v, want %q, %q, %v", s, most, got, rest, ok, want, wantRest, wantOK)
	}
}

func holdFrame(t *testing.T, s string) {
	t.Helper()
	got, rest, ok := GetFrame(s)
	if want, wantRest, wantOK := frameOf(s); got != want || rest != wantRest || ok != wantOK {
		t.Errorf("GetFrame(%q) = %q, %q, %v, want %q, %q, %v", s, got, rest, ok, want, wantRest, wantOK)
	}
}

func noNum(t *testing.T, s string) {
	t.Helper()
	if n, rest, ok := GetNum(s); n != 0 || rest != "" || ok {
		t.Errorf("GetNum(%q) = %d, %q, %v", s, n, rest, ok)
	}
}

func noText(t *testing.T, s string, most int) {
	t.Helper()
	if got, rest, ok := GetText(s, most); got != "" || rest != "" || ok {
		t.Errorf("GetText(%q, %d) = %q, %q, %v", s, most, got, rest, ok)
	}
}

func noSum(t *testing.T, s string) {
	t.Helper()
	if d, rest, ok := GetSum(s); d != (api.Digest{}) || rest != "" || ok {
		t.Errorf("GetSum(%q) = %x, %q, %v", s, d, rest, ok)
	}
}

func noFrame(t *testing.T, s string) {
	t.Helper()
	if got, rest, ok := GetFrame(s); got != "" || rest != "" || ok {
		t.Errorf("GetFrame(%q) = %q, %q, %v", s, got, rest, ok)
	}
}

func TestNum(t *testing.T) {
	for n, want := range map[int]string{
		0: "\x00", 1: "\x01", 127: "\x7f", 128: "\x80\x01", 129: "\x81\x01", 255: "\xff\x01", 256: "\x80\x02",
		300: string([]byte{172, 2}), 5000: "\x88\x27", 16383: "\xff\x7f", 16384: "\x80\x80\x01",
		1<<21 - 1: "\xff\xff\x7f", 1 << 21: "\x80\x80\x80\x01", 1<<49 - 1: "\xff\xff\xff\xff\xff\xff\x7f", 1 << 49: "\x80\x80\x80\x80\x80\x80\x80\x01",
		top - 1: "\xff\xff\xff\xff\xff\xff\xff\x01", top: "\x80\x80\x80\x80\x80\x80\x80\x02",
	} {
		if got := Num(n); got != want {
			t.Errorf("Num(%d) = %q, want %q", n, got, want)
		}
	}
	for _, n := range numbers() {
		if got, want := Num(n), string(binary.AppendUvarint(nil, uint64(n))); got != want {
			t.Errorf("Num(%d) = %q, want %q", n, got, want)
		}
	}
}

func TestNumBeyondItsLimits(t *testing.T) {
	for _, n := range []int{-1, -5, -127, -128, -top, math.MinInt32, math.MinInt + 1, math.MinInt} {
		if got := Num(n); got != "\x00" {
			t.Errorf("Num(%d) = %q", n, got)
		}
	}
	for _, n := range []int{top + 1, top + 127, top + 128, 1 << 51, 1<<56 - 1, 1 << 56, 1 << 60, math.MaxInt - 1, math.MaxInt} {
		if got := Num(n); got != "\x80\x80\x80\x80\x80\x80\x80\x02" {
			t.Errorf("Num(%d) = %q", n, got)
		}
	}
}

func TestNumIsReadAgain(t *testing.T) {
	for _, n := range numbers() {
		for _, b := range behind() {
			if got, rest, ok := GetNum(Num(n) + b); got != n || rest != b || !ok {
				t.Errorf("GetNum of Num(%d) and %q = %d, %q, %v", n, b, got, rest, ok)
			}
		}
	}
}

func TestGetNumOfBytesThatNeverEnd(t *testing.T) {
	noNum(t, "")
	for _, b := range []string{"\x80", "\x81", "\x82", "\xac", "\xff"} {
		for _, n := range []int{1, 2, 3, 6, 7, 8, 9, 10, 11, 64, 1 << 20} {
			noNum(t, strings.Repeat(b, n))
		}
	}
	for _, n := range numbers() {
		s := Num(n)
		for cut := range len(s) {
			noNum(t, s[:cut])
		}
		noNum(t, s[:len(s)-1]+string([]byte{s[len(s)-1] | 128}))
	}
}

func TestGetNumThatCouldHaveFewerBytes(t *testing.T) {
	for _, n := range numbers() {
		s := Num(n)
		longer := s[:len(s)-1] + string([]byte{s[len(s)-1] | 128})
		for range 12 {
			for _, b := range behind() {
				noNum(t, longer+"\x00"+b)
			}
			longer += "\x80"
		}
	}
}

func TestGetNumAboveTheGreatest(t *testing.T) {
	for _, n := range []uint64{top + 1, top + 127, top + 128, top + 1<<49, 1<<51 - 1, 1 << 51, 1<<56 - 1, 1 << 56, 1<<56 + 1, 1 << 57, 1 << 60, math.MaxInt64, 1 << 63, math.MaxUint64} {
		for _, b := range behind() {
			noNum(t, string(binary.AppendUvarint(nil, n))+b)
		}
	}
	// Of these the bits that a word has no room for are all that there is.
	for n := 8; n < 40; n++ {
		for last := 1; last < 128; last++ {
			noNum(t, strings.Repeat("\x80", n)+string([]byte{byte(last)}))
			noNum(t, "\x85"+strings.Repeat("\x80", n-1)+string([]byte{byte(last)}))
		}
	}
}

// TestGetNumOnlyOfANum holds all bytes of a kind against the chapter's words.
func TestGetNumOnlyOfANum(t *testing.T) {
	each(2, everyByte(), func(s string) { holdNum(t, s) })
	each(5, "\x00\x01\x02\x7f\x80\x81\xff", func(s string) { holdNum(t, s) })
	each(3, "\x00\x01\x02\x03\x7f\x80\x81\x82\xff", func(s string) {
		for n := 3; n <= 9; n++ {
			holdNum(t, strings.Repeat("\x80", n)+s)
			holdNum(t, strings.Repeat("\xff", n)+s)
		}
	})
}

func TestText(t *testing.T) {
	for s, want := range map[string]string{"": "\x00", "a": "\x01a", "abc": "\x03abc", "\x00": "\x01\x00", "\xff\x80": "\x02\xff\x80", "\u00e9": "\x02\u00e9"} {
		if got := Text(s); got != want {
			t.Errorf("Text(%q) = %q, want %q", s, got, want)
		}
	}
	for n, head := range map[int]string{127: "\x7f", 128: "\x80\x01", 300: "\xac\x02", 16383: "\xff\x7f", 16384: "\x80\x80\x01"} {
		if got := Text(varied(n)); got != head+varied(n) {
			t.Errorf("Text of %d bytes begins with %q", n, got[:4])
		}
	}
}

func TestTextIsReadAgain(t *testing.T) {
	for _, s := range append(texts(), varied(5001), varied(1<<16)) {
		for _, b := range behind() {
			for _, most := range []int{len(s), len(s) + 1, 1 << 20, top, math.MaxInt} {
				if got, rest, ok := GetText(Text(s)+b, most); got != s || rest != b || !ok {
					t.Errorf("GetText of %d bytes and %q, at most %d: %d bytes, %q, %v", len(s), b, most, len(got), rest, ok)
				}
			}
		}
	}
}

func TestGetTextOfMoreThanMost(t *testing.T) {
	for _, s := range texts() {
		for _, b := range behind() {
			for _, most := range []int{len(s) - 1, len(s) / 2, 0, -1, -len(s), -top, math.MinInt} {
				if most < len(s) {
					noText(t, Text(s)+b, most)
				}
			}
		}
	}
	if got, rest, ok := GetText("\x00a", 0); got != "" || rest != "a" || !ok {
		t.Errorf("the empty text, at most 0: %q, %q, %v", got, rest, ok)
	}
	noText(t, "\x00", -1)
	noText(t, "\x00a", math.MinInt)
}

func TestGetTextThatIsCut(t *testing.T) {
	for _, s := range texts() {
		w := Text(s)
		for cut := 0; cut < len(w); cut += 1 + cut/50 {
			for _, most := range []int{0, 1, len(s), 5000, math.MaxInt} {
				noText(t, w[:cut], most)
			}
		}
		noText(t, w[:len(w)-1], len(s))
	}
	for _, n := range []int{5, 300, 1 << 31, 1<<32 + 1, top - 1, top} {
		noText(t, Num(n), math.MaxInt)
		noText(t, Num(n)+"abc", math.MaxInt)
		noText(t, Num(n)+"abc", n)
	}
}

func TestGetTextOfNoNumber(t *testing.T) {
	for _, s := range []string{
		"", "\x80", "\xff\xff", "\x80\x00", "\x80\x00a", "\x81\x00a", "\x83\x80\x00abc", "\x81\x80\x80\x80\x80\x80\x80\x02abc", "\x80\x80\x80\x80\x80\x80\x80\x80\x01",
		"\x81\x80\x80\x80\x80\x80\x80\x80\x80\x02abc", "\x81\x80\x80\x80\x80\x80\x80\x80\x80\x80\x01abc",
	} {
		for _, most := range []int{-1, 0, 1, 3, 5000, math.MaxInt} {
			noText(t, s, most)
		}
	}
}

// TestGetTextOnlyOfAText holds all bytes of a kind against the chapter's words.
func TestGetTextOnlyOfAText(t *testing.T) {
	each(6, "\x00\x01\x02\x03\x80\x82", func(s string) {
		for most := -1; most <= 4; most++ {
			holdText(t, s, most)
		}
	})
}

func TestSum(t *testing.T) {
	for _, d := range digests() {
		s := Sum(d)
		if len(s) != 32 {
			t.Fatalf("Sum(%x) = %q", d, s)
		}
		for i := range 32 {
			if s[i] != d[i] {
				t.Errorf("Sum(%x) has %#x at %d", d, s[i], i)
			}
		}
	}
}

func TestSumIsReadAgain(t *testing.T) {
	for _, d := range digests() {
		for _, b := range behind() {
			if got, rest, ok := GetSum(Sum(d) + b); got != d || rest != b || !ok {
				t.Errorf("GetSum of %x and %q = %x, %q, %v", d, b, got, rest, ok)
			}
		}
	}
}

func TestGetSumAtAllLengths(t *testing.T) {
	for _, s := range []string{varied(80), strings.Repeat("\x00", 80), strings.Repeat("\xff", 80)} {
		for n := range 32 {
			noSum(t, s[:n])
		}
		for n := 32; n <= 80; n++ {
			d, rest, ok := GetSum(s[:n])
			if string(d[:]) != s[:32] || rest != s[32:n] || !ok {
				t.Errorf("GetSum(%q) = %x, %q, %v", s[:n], d, rest, ok)
			}
		}
	}
}

func TestFrame(t *testing.T) {
	// The check is that of the length and the bytes together.
	for s, want := range map[string]string{"": "\x00\x8d\xef\x02\xd2", "123": "\x03123\x32\xca\xf8\x44"} {
		if got := Frame(s); got != want {
			t.Errorf("Frame(%q) = %q, want %q", s, got, want)
		}
	}
	for _, s := range append(texts(), varied(5001), varied(1<<16)) {
		want := binary.AppendUvarint(nil, uint64(len(s)))
		want = append(want, s...)
		want = binary.LittleEndian.AppendUint32(want, crc32.ChecksumIEEE(want))
		if got := Frame(s); got != string(want) {
			t.Errorf("Frame of %d bytes ends in %q, want %q", len(s), got[len(got)-4:], want[len(want)-4:])
		}
	}
}

func TestFrameIsReadAgain(t *testing.T) {
	for _, s := range texts() {
		for _, b := range append(behind(), Frame(s), Frame("next")) {
			if got, rest, ok := GetFrame(Frame(s) + b); got != s || rest != b || !ok {
				t.Errorf("GetFrame of %d bytes and %q: %d bytes, %q, %v", len(s), b, len(got), rest, ok)
			}
		}
	}
}

func TestGetFrameAtItsLimit(t *testing.T) {
	for _, n := range []int{4998, 4999, 5000} {
		if got, rest, ok := GetFrame(Frame(varied(n)) + "x"); got != varied(n) || rest != "x" || !ok {
			t.Errorf("of %d bytes: %d bytes, %q, %v", n, len(got), rest, ok)
		}
	}
	for _, n := range []int{5001, 5002, 8192, 1 << 14, 1 << 20} {
		noFrame(t, Frame(varied(n)))
		noFrame(t, Frame(varied(n))+"x")
	}
}

func TestGetFrameThatIsCut(t *testing.T) {
	for _, s := range texts() {
		f := Frame(s)
		for cut := 0; cut < len(f)-5; cut += 1 + cut/50 {
			noFrame(t, f[:cut])
		}
		for less := 1; less <= 5; less++ {
			noFrame(t, f[:len(f)-less])
		}
	}
}

func TestGetFrameWithAnotherByte(t *testing.T) {
	for _, s := range []string{"", "\x00", "a", "123", "\xff\xff\xff\xff", "caf\u00e9", varied(130)} {
		f := Frame(s)
		for i := range len(f) {
			for x := range 256 {
				o := []byte(f)
				o[i] = byte(x)
				if o[i] == f[i] {
					continue
				}
				noFrame(t, string(o))
				noFrame(t, string(o)+"abc")
			}
		}
	}
}

func TestGetFrameWithAnotherByteOfALongText(t *testing.T) {
	f := Frame(varied(5000))
	for i := 0; i < len(f); i += 97 {
		for bit := range 8 {
			o := []byte(f)
			o[i] ^= 1 << bit
			noFrame(t, string(o))
		}
	}
}

func TestGetFrameOfAnotherCheck(t *testing.T) {
	for _, s := range texts() {
		w := Text(s)
		c := crc32.ChecksumIEEE([]byte(w))
		noFrame(t, w+string(binary.BigEndian.AppendUint32(nil, c)))
		noFrame(t, w+string(binary.LittleEndian.AppendUint32(nil, ^c)))
		noFrame(t, w+string(binary.LittleEndian.AppendUint32(nil, crc32.Checksum([]byte(w), crc32.MakeTable(crc32.Castagnoli)))))
		if s != "" {
			noFrame(t, w+string(binary.LittleEndian.AppendUint32(nil, crc32.ChecksumIEEE([]byte(s)))))
		}
		noFrame(t, w)
		noFrame(t, w+"\x00\x00\x00\x00")
	}
}

// TestGetFrameOfAnotherNumber: a check that is right doesn't make a Num of bytes that are none.
func TestGetFrameOfAnotherNumber(t *testing.T) {
	for _, w := range []string{"", "\x80", "\x80\x00", "\x81\x00a", "\x83\x80\x00abc", "\x05abc", "\x81\x80\x80\x80\x80\x80\x80\x02abc", "\x81\x80\x80\x80\x80\x80\x80\x80\x80\x80\x01abc"} {
		noFrame(t, w+string(binary.LittleEndian.AppendUint32(nil, crc32.ChecksumIEEE([]byte(w)))))
	}
}

func TestOneBehindAnother(t *testing.T) {
	d := api.Digest{1, 2, 31: 9}
	s := Num(300) + Text("ab") + Sum(d) + Frame("xy") + Num(0)
	n, s, ok1 := GetNum(s)
	a, s, ok2 := GetText(s, 2)
	e, s, ok3 := GetSum(s)
	f, s, ok4 := GetFrame(s)
	z, s, ok5 := GetNum(s)
	if n != 300 || a != "ab" || e != d || f != "xy" || z != 0 || s != "" || !(ok1 && ok2 && ok3 && ok4 && ok5) {
		t.Error(n, a, e, f, z, s, ok1, ok2, ok3, ok4, ok5)
	}
}

func FuzzWire(f *testing.F) {
	for _, n := range numbers() {
		f.Add(Num(n)+"abc", n)
	}
	for _, s := range texts() {
		f.Add(Text(s), len(s))
		f.Add(Frame(s)+"x", -len(s))
	}
	f.Fuzz(func(t *testing.T, s string, n int) {
		holdNum(t, s)
		holdText(t, s, n)
		holdText(t, Text(s), n)
		holdFrame(t, s)
		holdFrame(t, Frame(s)+s)
		if got, rest, ok := GetNum(Num(n) + s); got != min(max(n, 0), top) || rest != s || !ok {
			t.Errorf("GetNum of Num(%d) and %q = %d, %q, %v", n, s, got, rest, ok)
		}
		if d, rest, ok := GetSum(s); ok != (len(s) >= 32) || ok && Sum(d)+rest != s || !ok && (d != api.Digest{} || rest != "") {
			t.Errorf("GetSum(%q) = %x, %q, %v", s, d, rest, ok)
		}
	})
}
