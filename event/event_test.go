package event

import (
	"crypto/sha256"
	"fmt"
	"math"
	"slices"
	"strings"
	"testing"

	"cenotaph/api"
	"cenotaph/name"
)

const top = 1 << 40

var (
	longName = strings.Repeat("\U0001f5ff", 24)
	digest   = api.Digest(sha256.Sum256([]byte("abc")))
)

// good are events of all kinds, their bytes, and how they are shown.
func good() []struct {
	e           api.Event
	bytes, show string
} {
	d := string(digest[:])
	zero := strings.Repeat("\x00", 32)
	huge := "\x80\x80\x80\x80\x80\x20" // 2^40
	return []struct {
		e           api.Event
		bytes, show string
	}{
		{api.Event{Kind: api.Create, ID: 1, Name: "a"}, "\x00\x01\x01a", `create 1 "a"`},
		{api.Event{Kind: api.Create, ID: top, Name: longName}, "\x00" + huge + "\x60" + longName, `create 1099511627776 "` + longName + `"`},
		{api.Event{Kind: api.Create, ID: 127, Name: `a"b`}, "\x00\x7f\x03a\"b", `create 127 "a\"b"`},
		{api.Event{Kind: api.Create, ID: 128, Name: `a\b`}, "\x00\x80\x01\x03a\\b", `create 128 "a\\b"`},
		{api.Event{Kind: api.Append, ID: 2, Len: 1}, "\x01\x02\x01", "append 2 1"},
		{api.Event{Kind: api.Append, ID: 300, Len: 600}, "\x01\xac\x02\xd8\x04", "append 300 600"},
		{api.Event{Kind: api.Seal, ID: 3, Time: 4, Len: 5, Sum: digest}, "\x02\x03\x04\x05" + d, "seal 3 4 5 ba7816bf"},
		{api.Event{Kind: api.Seal, ID: top, Time: top, Len: 600, Sum: api.Digest{4: 1}}, "\x02" + huge + huge + "\xd8\x04\x00\x00\x00\x00\x01" + zero[:27], "seal 1099511627776 1099511627776 600 00000000"},
		{api.Event{Kind: api.Seal, ID: 1}, "\x02\x01\x00\x00" + zero, "seal 1 0 0 00000000"},
		{api.Event{Kind: api.Extend, ID: 6, Time: 7}, "\x03\x06\x07", "extend 6 7"},
		{api.Event{Kind: api.Extend, ID: 6}, "\x03\x06\x00", "extend 6 0"},
		{api.Event{Kind: api.Extend, ID: 6, Time: top}, "\x03\x06" + huge, "extend 6 1099511627776"},
		{api.Event{Kind: api.Hold, ID: 8, Name: "a b"}, "\x04\x08\x03a b", `hold 8 "a b"`},
		{api.Event{Kind: api.Release, ID: 9, Name: "\u00e9"}, "\x05\x09\x02\u00e9", "release 9 \"\u00e9\""},
		{api.Event{Kind: api.Delete, ID: 10}, "\x06\x0a", "delete 10"},
		{api.Event{Kind: api.Delete, ID: top}, "\x06" + huge, "delete 1099511627776"},
		{api.Event{Kind: api.Tick}, "\x07\x00", "tick 0"},
		{api.Event{Kind: api.Tick, Time: 129}, "\x07\x81\x01", "tick 129"},
		{api.Event{Kind: api.Tick, Time: top}, "\x07" + huge, "tick 1099511627776"},
	}
}

func numbers() []int {
	return []int{0, 1, -1, 2, 127, 128, 599, 600, 601, top - 1, top, top + 1, 1 << 50, 1<<50 + 1, math.MaxInt, math.MinInt}
}

func names() []string {
	return []string{
		"", "a", "a b", " ", " a", "a ", "a/b", "/", "a\"b", "a\\b", "a\nb", "\x00", "\x7f", "\u0080", "\u00a0", "\u00e9", "\xff", "a\xc3", "\ufffd",
		strings.Repeat("a", 24), strings.Repeat("a", 25), longName, longName + "a", strings.Repeat("a", 100), strings.Repeat("a", 101), strings.Repeat("a", 200),
	}
}

func digests() []api.Digest {
	l := []api.Digest{{}, digest}
	for i := range 32 {
		var d api.Digest
		d[i] = 1 << (i % 8)
		l = append(l, d)
	}
	return l
}

// tells is which of ID, Name, Time, Len and Sum a kind tells, by their first letters; of no kind that there is none.
func tells(k api.Kind) string {
	if k < 0 || k > 7 {
		return ""
	}
	return [...]string{"IN", "IL", "ITLS", "IT", "IN", "IN", "I", "T"}[k]
}

// validOf is Valid as the chapter's words say it.
func validOf(e api.Event) bool {
	t := tells(e.Kind)
	has := func(letter string) bool { return strings.Contains(t, letter) }
	least := 0
	if e.Kind == api.Append {
		least = 1
	}
	return t != "" &&
		(has("I") && e.ID >= 1 && e.ID <= top || !has("I") && e.ID == 0) &&
		(has("N") && name.Valid(e.Name) || !has("N") && e.Name == "") &&
		(has("T") && e.Time >= 0 && e.Time <= top || !has("T") && e.Time == 0) &&
		(has("L") && e.Len >= least && e.Len <= 600 || !has("L") && e.Len == 0) &&
		(has("S") || e.Sum == api.Digest{})
}

// numOf is n, from 0 to 2^50, as bytes.
func numOf(n int) string {
	if n < 128 {
		return string([]byte{byte(n)})
	}
	return string([]byte{byte(n%128 + 128)}) + numOf(n/128)
}

// putOf is Put of an event that may be, as the chapter's words say it.
func putOf(e api.Event) string {
	s := numOf(int(e.Kind))
	for _, letter := range tells(e.Kind) {
		switch letter {
		case 'I':
			s += numOf(e.ID)
		case 'N':
			s += numOf(len(e.Name)) + e.Name
		case 'T':
			s += numOf(e.Time)
		case 'L':
			s += numOf(e.Len)
		case 'S':
			s += string(e.Sum[:])
		}
	}
	return s
}

// showOf is Show as the chapter's words say it.
func showOf(e api.Event) string {
	if !validOf(e) {
		return "?"
	}
	s := [...]string{"create", "append", "seal", "extend", "hold", "release", "delete", "tick"}[e.Kind]
	for _, letter := range tells(e.Kind) {
		switch letter {
		case 'I':
			s += fmt.Sprintf(" %d", e.ID)
		case 'N':
			s += " " + name.Quote(e.Name)
		case 'T':
			s += fmt.Sprintf(" %d", e.Time)
		case 'L':
			s += fmt.Sprintf(" %d", e.Len)
		case 'S':
			s += " " + fmt.Sprintf("%x", e.Sum)[:8]
		}
	}
	return s
}

// scanner reads what events are made of, one by one, and holds whether all of it was there.
type scanner struct {
	s  string
	ok bool
}

func (r *scanner) num() int {
	n := 0
	for i := range min(len(r.s), 8) {
		n += int(r.s[i]%128) << (7 * i)
		if r.s[i] >= 128 {
			continue
		}
		if i > 0 && r.s[i] == 0 || n > 1<<50 {
			break
		}
		r.s = r.s[i+1:]
		return n
	}
	r.ok = false
	return 0
}

func (r *scanner) bytes(n int) string {
	if n > len(r.s) {
		r.ok = false
		return ""
	}
	t := r.s[:n]
	r.s = r.s[n:]
	return t
}

// getOf is Get as the chapter's words say it.
func getOf(s string) (api.Event, string, bool) {
	r := &scanner{s, true}
	e := api.Event{Kind: api.Kind(r.num())}
	for _, letter := range tells(e.Kind) {
		switch letter {
		case 'I':
			e.ID = r.num()
		case 'N':
			e.Name = r.bytes(r.num())
		case 'T':
			e.Time = r.num()
		case 'L':
			e.Len = r.num()
		case 'S':
			copy(e.Sum[:], r.bytes(32))
		}
	}
	if !r.ok || !validOf(e) {
		return api.Event{}, "", false
	}
	return e, r.s, true
}

// hold tells an error where Valid, Put or Show of e, or Get of what is put, is not as the chapter says.
func hold(t *testing.T, e api.Event) {
	t.Helper()
	want := validOf(e)
	if got := Valid(e); got != want {
		t.Errorf("Valid(%v) = %v", e, got)
	}
	if got := Show(e); got != showOf(e) {
		t.Errorf("Show(%v) = %q", e, got)
	}
	s, ok := Put(e)
	if ok != want || !want && s != "" || want && s != putOf(e) {
		t.Errorf("Put(%v) = %q, %v", e, s, ok)
	}
	if !want {
		return
	}
	for _, behind := range []string{"", "\x00", "\x80", "\xff", "\x00\x01\x01a", s} {
		if got, rest, ok := Get(s + behind); got != e || rest != behind || !ok {
			t.Errorf("Get(%q) = %v, %q, %v", s+behind, got, rest, ok)
		}
	}
}

// holdGet tells an error where Get of s is not as the chapter says, or what it gets is not put as s.
func holdGet(t *testing.T, s string) {
	t.Helper()
	got, rest, ok := Get(s)
	if want, wantRest, wantOK := getOf(s); got != want || rest != wantRest || ok != wantOK {
		t.Errorf("Get(%q) = %v, %q, %v", s, got, rest, ok)
	}
	if !ok {
		return
	}
	if again, valid := Put(got); again+rest != s || !valid {
		t.Errorf("Get(%q) = %v, that is put as %q", s, got, again)
	}
}

func refused(t *testing.T, s string) {
	t.Helper()
	if e, rest, ok := Get(s); e != (api.Event{}) || rest != "" || ok {
		t.Errorf("Get(%q) = %v, %q, %v", s, e, rest, ok)
	}
}

func kinds() []api.Kind {
	l := []api.Kind{math.MinInt, -1 << 40, -8, -1, 127, 128, 1 << 40, math.MaxInt}
	for k := range api.Kind(14) {
		l = append(l, k)
	}
	return l
}

func TestExamples(t *testing.T) {
	for _, x := range good() {
		if !Valid(x.e) {
			t.Errorf("%v is not valid", x.e)
		}
		if s, ok := Put(x.e); s != x.bytes || !ok {
			t.Errorf("Put(%v) = %q, %v", x.e, s, ok)
		}
		if s := Show(x.e); s != x.show {
			t.Errorf("Show(%v) = %q", x.e, s)
		}
		hold(t, x.e)
	}
}

func TestValidOfEachNumber(t *testing.T) {
	for _, x := range []struct {
		name string
		of   func(n int) api.Event
		good []int
	}{
		{"the ID of Create", func(n int) api.Event { return api.Event{Kind: api.Create, ID: n, Name: "a"} }, []int{1, 2, 127, 128, 599, 600, 601, top - 1, top}},
		{"the ID of Append", func(n int) api.Event { return api.Event{Kind: api.Append, ID: n, Len: 1} }, []int{1, 2, 127, 128, 599, 600, 601, top - 1, top}},
		{"the ID of Seal", func(n int) api.Event { return api.Event{Kind: api.Seal, ID: n} }, []int{1, 2, 127, 128, 599, 600, 601, top - 1, top}},
		{"the ID of Extend", func(n int) api.Event { return api.Event{Kind: api.Extend, ID: n} }, []int{1, 2, 127, 128, 599, 600, 601, top - 1, top}},
		{"the ID of Hold", func(n int) api.Event { return api.Event{Kind: api.Hold, ID: n, Name: "a"} }, []int{1, 2, 127, 128, 599, 600, 601, top - 1, top}},
		{"the ID of Release", func(n int) api.Event { return api.Event{Kind: api.Release, ID: n, Name: "a"} }, []int{1, 2, 127, 128, 599, 600, 601, top - 1, top}},
		{"the ID of Delete", func(n int) api.Event { return api.Event{Kind: api.Delete, ID: n} }, []int{1, 2, 127, 128, 599, 600, 601, top - 1, top}},
		{"the ID of Tick", func(n int) api.Event { return api.Event{Kind: api.Tick, ID: n} }, []int{0}},
		{"the Time of Create", func(n int) api.Event { return api.Event{Kind: api.Create, ID: 1, Name: "a", Time: n} }, []int{0}},
		{"the Time of Append", func(n int) api.Event { return api.Event{Kind: api.Append, ID: 1, Len: 1, Time: n} }, []int{0}},
		{"the Time of Seal", func(n int) api.Event { return api.Event{Kind: api.Seal, ID: 1, Time: n} }, []int{0, 1, 2, 127, 128, 599, 600, 601, top - 1, top}},
		{"the Time of Extend", func(n int) api.Event { return api.Event{Kind: api.Extend, ID: 1, Time: n} }, []int{0, 1, 2, 127, 128, 599, 600, 601, top - 1, top}},
		{"the Time of Hold", func(n int) api.Event { return api.Event{Kind: api.Hold, ID: 1, Name: "a", Time: n} }, []int{0}},
		{"the Time of Release", func(n int) api.Event { return api.Event{Kind: api.Release, ID: 1, Name: "a", Time: n} }, []int{0}},
		{"the Time of Delete", func(n int) api.Event { return api.Event{Kind: api.Delete, ID: 1, Time: n} }, []int{0}},
		{"the Time of Tick", func(n int) api.Event { return api.Event{Kind: api.Tick, Time: n} }, []int{0, 1, 2, 127, 128, 599, 600, 601, top - 1, top}},
		{"the Len of Create", func(n int) api.Event { return api.Event{Kind: api.Create, ID: 1, Name: "a", Len: n} }, []int{0}},
		{"the Len of Append", func(n int) api.Event { return api.Event{Kind: api.Append, ID: 1, Len: n} }, []int{1, 2, 127, 128, 599, 600}},
		{"the Len of Seal", func(n int) api.Event { return api.Event{Kind: api.Seal, ID: 1, Len: n} }, []int{0, 1, 2, 127, 128, 599, 600}},
		{"the Len of Extend", func(n int) api.Event { return api.Event{Kind: api.Extend, ID: 1, Len: n} }, []int{0}},
		{"the Len of Hold", func(n int) api.Event { return api.Event{Kind: api.Hold, ID: 1, Name: "a", Len: n} }, []int{0}},
		{"the Len of Release", func(n int) api.Event { return api.Event{Kind: api.Release, ID: 1, Name: "a", Len: n} }, []int{0}},
		{"the Len of Delete", func(n int) api.Event { return api.Event{Kind: api.Delete, ID: 1, Len: n} }, []int{0}},
		{"the Len of Tick", func(n int) api.Event { return api.Event{Kind: api.Tick, Len: n} }, []int{0}},
	} {
		for _, n := range numbers() {
			if got := Valid(x.of(n)); got != slices.Contains(x.good, n) {
				t.Errorf("%s %d: %v", x.name, n, got)
			}
			hold(t, x.of(n))
		}
	}
}

func TestValidOfKindsThatAreNone(t *testing.T) {
	for _, x := range good() {
		for _, k := range kinds() {
			e := x.e
			e.Kind = k
			hold(t, e)
			if (k < api.Create || k > api.Tick) && Valid(e) {
				t.Errorf("%v is valid", e)
			}
		}
	}
	if Valid(api.Event{}) || Valid(api.Event{Kind: api.Sweep, ID: 1}) {
		t.Error("no event is valid")
	}
}

func TestValidOfNames(t *testing.T) {
	for _, s := range names() {
		for _, k := range []api.Kind{api.Create, api.Hold, api.Release} {
			e := api.Event{Kind: k, ID: 1, Name: s}
			if Valid(e) != name.Valid(s) {
				t.Errorf("%v", e)
			}
		}
	}
}

// What a kind does not tell must be zero; what it tells may be changed.
func TestValidOfWhatIsNotTold(t *testing.T) {
	for _, x := range good() {
		for _, s := range names() {
			e := x.e
			e.Name = s
			hold(t, e)
			if s != "" && !strings.Contains(tells(e.Kind), "N") && Valid(e) {
				t.Errorf("%v is valid", e)
			}
		}
		for _, d := range digests() {
			e := x.e
			e.Sum = d
			hold(t, e)
			if d != (api.Digest{}) && Valid(e) != (e.Kind == api.Seal) {
				t.Errorf("%v: %v", e, Valid(e))
			}
		}
		for _, n := range numbers() {
			for _, at := range []func(e *api.Event) *int{
				func(e *api.Event) *int { return &e.ID },
				func(e *api.Event) *int { return &e.Time },
				func(e *api.Event) *int { return &e.Len },
			} {
				e := x.e
				*at(&e) = n
				hold(t, e)
			}
		}
	}
}

func TestEveryEventOfEdges(t *testing.T) {
	few := []int{-1, 0, 1, 600, 601, top, top + 1}
	for _, k := range kinds() {
		for _, id := range few {
			for _, time := range few {
				for _, length := range few {
					for _, text := range []string{"", "a", "a/b"} {
						for _, d := range []api.Digest{{}, {31: 1}} {
							hold(t, api.Event{Kind: k, ID: id, Name: text, Time: time, Len: length, Sum: d})
						}
					}
				}
			}
		}
	}
}

func TestShowOfNames(t *testing.T) {
	for _, x := range []struct {
		e    api.Event
		want string
	}{
		{api.Event{Kind: api.Create, ID: 1, Name: "a"}, `create 1 "a"`},
		{api.Event{Kind: api.Hold, ID: 1, Name: `"\"`}, `hold 1 "\"\\\""`},
		{api.Event{Kind: api.Release, ID: 1, Name: "a  b"}, `release 1 "a  b"`},
		{api.Event{Kind: api.Create, ID: 1, Name: "a\nb"}, "?"},
		{api.Event{Kind: api.Hold, ID: 1, Name: "\xff"}, "?"},
		{api.Event{Kind: api.Release, ID: 1}, "?"},
		{api.Event{}, "?"},
		{api.Event{Kind: api.Sweep}, "?"},
		{api.Event{Kind: -1, ID: 1}, "?"},
	} {
		if got := Show(x.e); got != x.want {
			t.Errorf("Show(%v) = %q", x.e, got)
		}
	}
}

// No name that may be has a line's end, so that Quote's other forms are seen in a part alone.
func TestShowOfANameWithALinesEnd(t *testing.T) {
	if got := label("a\"\n\x01").show(); got != `"a\"\n\x01"` {
		t.Error(got)
	}
}

func TestShowOfSums(t *testing.T) {
	for i, want := range []string{"ff000000", "00ff0000", "0000ff00", "000000ff", "00000000"} {
		var d api.Digest
		d[i] = 0xff
		if got := Show(api.Event{Kind: api.Seal, ID: 1, Sum: d}); got != "seal 1 0 0 "+want {
			t.Error(i, got)
		}
	}
}

func TestGetOfWhatIsCut(t *testing.T) {
	for _, x := range good() {
		for n := range len(x.bytes) {
			refused(t, x.bytes[:n])
		}
	}
}

func TestGetOfWhatIsNoEvent(t *testing.T) {
	const (
		huge  = "\x80\x80\x80\x80\x80\x20" // 2^40
		above = "\x81\x80\x80\x80\x80\x20" // and 1
		many  = "\xd9\x04"                 // 601
	)
	zero := strings.Repeat("\x00", 32)
	hundred, more := strings.Repeat("a", 100), strings.Repeat("a", 101)
	for _, s := range []string{
		"", "\x00", "\x80", "\xff",
		// Kinds that are none, with what others tell behind them.
		"\x08", "\x08\x01", "\x08\x01\x01a", "\x09\x01", "\x0b\x01\x01a", "\x7f\x01\x01" + zero, "\x80\x01\x01", huge + "\x01\x01",
		// Numbers that could have fewer bytes, at each place.
		"\x80\x00\x01\x01a", "\x00\x81\x00\x01a", "\x00\x01\x81\x00a", "\x01\x01\x81\x00", "\x86\x00\x01", "\x06\x81\x00", "\x07\x80\x00",
		"\x02\x01\x80\x00\x00" + zero, "\x02\x01\x00\x80\x00" + zero, "\x03\x01\x80\x80\x00",
		// Numbers that never end, or are too great to be told.
		"\x06\x80\x80\x80\x80\x80\x80\x80\x80\x01", "\x06\xff\xff\xff\xff\xff\xff\xff\xff\xff\x01", "\x07\x81\x80\x80\x80\x80\x80\x80\x02", "\x07\x80\x80\x80\x80\x80\x80\x80\x02",
		// IDs.
		"\x00\x00\x01a", "\x01\x00\x01", "\x02\x00\x00\x00" + zero, "\x03\x00\x00", "\x04\x00\x01a", "\x05\x00\x01a", "\x06\x00",
		"\x00" + above + "\x01a", "\x01" + above + "\x01", "\x02" + above + "\x00\x00" + zero, "\x03" + above + "\x00", "\x04" + above + "\x01a", "\x05" + above + "\x01a", "\x06" + above,
		// Times.
		"\x02\x01" + above + "\x00" + zero, "\x03\x01" + above, "\x07" + above,
		// Lengths.
		"\x01\x01\x00", "\x01\x01" + many, "\x01\x01" + huge, "\x02\x01\x00" + many + zero,
		// Digests that are cut.
		"\x02\x01\x00\x00", "\x02\x01\x00\x00" + zero[1:],
		// Names.
		"\x00\x01\x00", "\x04\x01\x00", "\x05\x01\x00", "\x00\x01\x01/", "\x04\x01\x01/", "\x05\x01\x01/", "\x00\x01\x01\n", "\x00\x01\x01\xff", "\x00\x01\x02 a", "\x00\x01\x02a ", "\x00\x01\x02a",
		"\x00\x01\x19" + hundred[:25], "\x00\x01\x61" + longName + "a", "\x00\x01\x64" + hundred, "\x00\x01\x65" + more, "\x00\x01\x80\x01" + strings.Repeat("a", 128), "\x04\x01\x65" + more, "\x05\x01\x65" + more,
		"\x00\x01\xff\xff\xff\xff\x0fa",
	} {
		refused(t, s)
		holdGet(t, s)
		// What is behind bytes that are not cut makes no event of them.
		holdGet(t, s+"\x00\x01\x01a")
	}
}

// A name behind its length is all that the length tells, and no more.
func TestGetOfNames(t *testing.T) {
	for _, s := range names() {
		for k := range 8 {
			b := numOf(k) + "\x01" + numOf(len(s)) + s
			holdGet(t, b)
			holdGet(t, b+"a")
		}
	}
}

func TestGetOfEveryFewBytes(t *testing.T) {
	for a := range 256 {
		for b := range 256 {
			holdGet(t, string([]byte{byte(a), byte(b)}))
			if a > 8 && a != 128 && a != 134 {
				continue // most kinds that are none are refused alike
			}
			for c := range 256 {
				holdGet(t, string([]byte{byte(a), byte(b), byte(c)}))
				holdGet(t, string([]byte{byte(a), 1, byte(b), byte(c)}))
			}
		}
	}
}

// One byte that is another one makes another event, or none.
func TestGetOfWhatIsChanged(t *testing.T) {
	for _, x := range good() {
		for i := range len(x.bytes) {
			for c := range 256 {
				s := x.bytes[:i] + string([]byte{byte(c)}) + x.bytes[i+1:]
				holdGet(t, s)
				if e, _, ok := Get(s); ok && e == x.e && s != x.bytes {
					t.Errorf("%q and %q are one event", s, x.bytes)
				}
			}
		}
	}
}

func TestGetOfManyInARow(t *testing.T) {
	var s string
	for _, x := range good() {
		s += x.bytes
	}
	for _, x := range good() {
		e, rest, ok := Get(s)
		if e != x.e || !ok {
			t.Fatalf("%v, not %v", e, x.e)
		}
		s = rest
	}
	if s != "" {
		t.Errorf("%q is left", s)
	}
}

// ranksOf is Ranks as the chapter's words say it.
func ranksOf(l []api.Event) []int {
	ranks := []int{}
	for i, e := range l {
		n := 0
		for _, ahead := range l[:i] {
			if e.Kind != api.Tick && ahead.Kind != api.Tick && ahead.ID == e.ID {
				n++
			}
		}
		ranks = append(ranks, n)
	}
	return ranks
}

func TestRanks(t *testing.T) {
	of := func(k api.Kind, id int) api.Event { return api.Event{Kind: k, ID: id} }
	for _, x := range []struct {
		l    []api.Event
		want []int
	}{
		{nil, nil},
		{[]api.Event{}, nil},
		{[]api.Event{of(api.Create, 1)}, []int{0}},
		{[]api.Event{of(api.Tick, 0), of(api.Tick, 0)}, []int{0, 0}},
		{[]api.Event{of(api.Create, 1), of(api.Append, 1), of(api.Seal, 1), of(api.Extend, 1), of(api.Hold, 1), of(api.Release, 1), of(api.Delete, 1)}, []int{0, 1, 2, 3, 4, 5, 6}},
		{[]api.Event{of(api.Create, 1), of(api.Create, 2), of(api.Append, 1), of(api.Append, 2), of(api.Append, 3), of(api.Seal, 1)}, []int{0, 0, 1, 1, 0, 2}},
		{[]api.Event{of(api.Tick, 0), of(api.Create, 1), {Kind: api.Tick, Time: 1}, of(api.Append, 1), {Kind: api.Tick, Time: 1}, of(api.Seal, 1)}, []int{0, 0, 0, 1, 0, 2}},
		// Events that may not be are of a file too, and ticks of none, whatever they have.
		{[]api.Event{of(api.Tick, 1), of(api.Create, 1), of(api.Tick, 1), of(-1, 1), of(api.Sweep, 1), of(99, 1), of(api.Tick, 1)}, []int{0, 0, 0, 1, 2, 3, 0}},
		{[]api.Event{of(api.Tick, 0), of(api.Create, 0), of(api.Append, 0), of(api.Create, -1), of(api.Create, math.MinInt), of(api.Delete, -1), of(api.Create, math.MaxInt), of(api.Delete, math.MinInt)}, []int{0, 0, 1, 0, 0, 1, 0, 1}},
	} {
		kept := slices.Clone(x.l)
		if got := Ranks(x.l); !slices.Equal(got, x.want) || !slices.Equal(got, ranksOf(x.l)) {
			t.Errorf("Ranks(%v) = %v", x.l, got)
		}
		if !slices.Equal(kept, x.l) {
			t.Errorf("%v became %v", kept, x.l)
		}
	}
}

func TestRanksOfManyEvents(t *testing.T) {
	var l []api.Event
	for i := range 1500 {
		l = append(l, api.Event{Kind: api.Kind(i*i%11 - 1), ID: i * 7 % 13, Time: i})
	}
	if got := Ranks(l); !slices.Equal(got, ranksOf(l)) {
		t.Error(got)
	}
}

// Nothing is kept from call to call.
func TestRanksAreNew(t *testing.T) {
	l := []api.Event{{Kind: api.Create, ID: 1}, {Kind: api.Delete, ID: 1}}
	first := Ranks(l)
	first[1] = 9
	if second := Ranks(l); !slices.Equal(second, []int{0, 1}) {
		t.Error(second)
	}
}

func FuzzEvent(f *testing.F) {
	for _, x := range good() {
		f.Add(x.bytes, int(x.e.Kind), x.e.ID, x.e.Name, x.e.Time, x.e.Len, x.e.Sum[:])
	}
	f.Add("\x08\x01", 8, 0, "a/b", -1, 601, []byte{1})
	f.Fuzz(func(t *testing.T, s string, k, id int, text string, time, length int, d []byte) {
		e := api.Event{Kind: api.Kind(k), ID: id, Name: text, Time: time, Len: length}
		copy(e.Sum[:], d)
		hold(t, e)
		holdGet(t, s)
		b, _ := Put(e)
		holdGet(t, b+s)
		l := []api.Event{e, {Kind: api.Tick, ID: id}, e, {Kind: api.Delete, ID: id}}
		if got := Ranks(l); !slices.Equal(got, ranksOf(l)) {
			t.Errorf("Ranks(%v) = %v", l, got)
		}
	})
}
