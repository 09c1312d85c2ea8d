package sha

import (
	"crypto/sha256"
	"encoding/hex"
	"math/big"
	"slices"
	"strings"
	"testing"

	"cenotaph/api"
)

// lengths end below, at and above a block's room, and a block.
func lengths() []int {
	return []int{0, 1, 3, 54, 55, 56, 57, 63, 64, 65, 118, 119, 120, 121, 127, 128, 129, 1000, 8191, 8192}
}

// varied is n bytes of all kinds, most of which are no UTF-8.
func varied(n int) string {
	b := make([]byte, n)
	for i := range b {
		b[i] = byte(7*i + i>>8 + 131)
	}
	return string(b)
}

func digests() []api.Digest {
	var ones, count api.Digest
	for i := range ones {
		ones[i] = 0xff
		count[i] = byte(i*8 + 5)
	}
	return []api.Digest{{}, ones, count, {31: 1}, {0: 0x10}, Of("abc")}
}

func TestExample(t *testing.T) {
	want := strings.ReplaceAll("ba7816bf 8f01cfea 414140de 5dae2223 b00361a3 96177a9c b410ff61 f20015ad", " ", "")
	if got := Text(Of("abc")); got != want {
		t.Error(got)
	}
}

func TestOfNoBytes(t *testing.T) {
	if got := Text(Of("")); got != "e3b0c44298fc1c149afbf4c8996fb92427ae41e4649b934ca495991b7852b855" {
		t.Error(got)
	}
}

func TestOfAtAllLengths(t *testing.T) {
	for n := range 260 {
		for _, s := range []string{varied(n), strings.Repeat("\x00", n), strings.Repeat("\xff", n), strings.Repeat("a", n)} {
			if got, want := Of(s), api.Digest(sha256.Sum256([]byte(s))); got != want {
				t.Fatalf("Of(%q) = %x, want %x", s, got, want)
			}
		}
	}
}

func TestOfLongTexts(t *testing.T) {
	for _, n := range []int{8191, 8192, 1 << 16, 1<<20 + 5} {
		s := varied(n)
		if got, want := Of(s), api.Digest(sha256.Sum256([]byte(s))); got != want {
			t.Errorf("Of %d bytes = %x, want %x", n, got, want)
		}
	}
}

func TestOfIsOfEachCallAlone(t *testing.T) {
	first := Of("abc")
	Of(varied(500))
	if got := Of("abc"); got != first {
		t.Errorf("Of abc = %x, then %x", first, got)
	}
}

func TestPad(t *testing.T) {
	for _, n := range lengths() {
		s := varied(n)
		p := Pad(s)
		if len(p)%64 != 0 || len(p) < n+9 || len(p) >= n+9+64 {
			t.Fatalf("Pad of %d bytes has %d", n, len(p))
		}
		if p[:n] != s || p[n] != 128 {
			t.Errorf("Pad of %d bytes begins otherwise", n)
		}
		zeros, length := p[n+1:len(p)-8], p[len(p)-8:]
		if strings.Trim(zeros, "\x00") != "" {
			t.Errorf("Pad of %d bytes has %q between", n, zeros)
		}
		want := []byte{0, 0, 0, 0, byte(8 * n >> 24), byte(8 * n >> 16), byte(8 * n >> 8), byte(8 * n)}
		if length != string(want) {
			t.Errorf("Pad of %d bytes ends in %q", n, length)
		}
	}
}

func TestPadRoom(t *testing.T) {
	for n, want := range map[int]int{0: 64, 55: 64, 56: 128, 63: 128, 64: 128, 119: 128, 120: 192} {
		if got := len(Pad(varied(n))); got != want {
			t.Errorf("Pad of %d bytes has %d, want %d", n, got, want)
		}
	}
}

func TestPadOfAPaddedText(t *testing.T) {
	p := Pad("abc")
	if got := Pad(p); len(got) != 128 || got[:64] != p || got[64] != 128 || got[126] != 2 || got[127] != 0 {
		t.Errorf("%q", got)
	}
}

func TestText(t *testing.T) {
	for _, d := range digests() {
		if got := Text(d); got != hex.EncodeToString(d[:]) {
			t.Errorf("Text(%v) = %q", d, got)
		}
	}
	if got := Text(api.Digest{}); got != strings.Repeat("0", 64) {
		t.Error(got)
	}
	if got := Text(api.Digest{0: 0x0a, 1: 0xf0, 31: 0x9b}); got != "0af0"+strings.Repeat("0", 58)+"9b" {
		t.Error(got)
	}
}

func TestTextOfAnyByteAtAnyPlace(t *testing.T) {
	for i := range 32 {
		for x := range 256 {
			d := Of("abc")
			d[i] = byte(x)
			if got := Text(d); got != hex.EncodeToString(d[:]) {
				t.Fatalf("Text(%v) = %q", d, got)
			}
		}
	}
}

func TestLink(t *testing.T) {
	for _, d := range digests() {
		for _, n := range lengths() {
			s := varied(n)
			want := api.Digest(sha256.Sum256(append(slices.Clone(d[:]), s...)))
			if got := Link(d, s); got != want || got != Of(string(d[:])+s) {
				t.Errorf("Link(%x, %d bytes) = %x, want %x", d, n, got, want)
			}
		}
	}
}

func TestLinkTellsHeadsAndTextsApart(t *testing.T) {
	l := []api.Digest{Of("b"), Link(api.Digest{}, "b"), Link(api.Digest{}, "c"), Link(api.Digest{31: 1}, "b"), Link(api.Digest{}, ""), Link(api.Digest{}, "\x00")}
	for i, a := range l {
		if slices.Contains(l[:i], a) {
			t.Errorf("%d: %x is there already", i, a)
		}
	}
}

func TestSame(t *testing.T) {
	l := []string{"", "a", "b", "abc", "abd", "ABC", "\x00", "\x80", varied(55), varied(56), varied(64), Pad(""), Pad("abc"), "\xff"}
	for _, a := range l {
		for _, b := range l {
			if Same(a, strings.Clone(b)) {
				t.Errorf("Same(%q, %q)", a, b)
			}
		}
	}
}

func TestStartAndRoundKeys(t *testing.T) {
	p := primes()
	if got, want := start(p), ([8]uint32{0x6a09e667, 0xbb67ae85, 0x3c6ef372, 0xa54ff53a, 0x510e527f, 0x9b05688c, 0x1f83d9ab, 0x5be0cd19}); got != want {
		t.Errorf("start: %x", got)
	}
	for i, k := range roundKeys(p) {
		if !big.NewInt(int64(p[i])).ProbablyPrime(0) || i > 0 && p[i] <= p[i-1] {
			t.Errorf("prime %d is %d", i, p[i])
		}
		// The root is whole in steps of 2^-32, with its part ahead of the point.
		root := new(big.Int)
		for ahead := int64(0); ahead < 8; ahead++ {
			r := big.NewInt(ahead<<32 | int64(k))
			if cubed(r).Cmp(shifted(p[i])) <= 0 {
				root = r
			}
		}
		next := new(big.Int).Add(root, big.NewInt(1))
		if root.Sign() == 0 || cubed(next).Cmp(shifted(p[i])) <= 0 {
			t.Errorf("key %d of %d is %#x", i, p[i], k)
		}
	}
	if p[63] != 311 {
		t.Errorf("the last prime is %d", p[63])
	}
}

func cubed(r *big.Int) *big.Int { return new(big.Int).Exp(r, big.NewInt(3), nil) }

func shifted(p uint64) *big.Int { return new(big.Int).Lsh(new(big.Int).SetUint64(p), 96) }

func FuzzOf(f *testing.F) {
	for _, n := range lengths() {
		f.Add(varied(n), varied(n/2))
	}
	f.Fuzz(func(t *testing.T, a, b string) {
		d := Of(a)
		if d != api.Digest(sha256.Sum256([]byte(a))) {
			t.Errorf("Of(%q) = %x", a, d)
		}
		if Link(d, b) != api.Digest(sha256.Sum256(append(slices.Clone(d[:]), b...))) {
			t.Errorf("Link(%x, %q)", d, b)
		}
		if Text(d) != hex.EncodeToString(d[:]) {
			t.Errorf("Text(%x)", d)
		}
		if Same(a, b) {
			t.Errorf("Same(%q, %q)", a, b)
		}
	})
}
