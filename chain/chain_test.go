package chain

import (
	"crypto/sha256"
	"iter"
	"math"
	"slices"
	"strings"
	"testing"

	"cenotaph/api"
	"cenotaph/event"
	"cenotaph/sha"
)

const top = 1 << 40

// row are events of all kinds, with the edges of what they tell.
func row() []api.Event {
	return []api.Event{
		{Kind: api.Create, ID: 1, Name: "a"},
		{Kind: api.Append, ID: 1, Len: 3},
		{Kind: api.Seal, ID: 1, Time: 4, Len: 3, Sum: api.Digest(sha256.Sum256([]byte("abc")))},
		{Kind: api.Extend, ID: 1, Time: top},
		{Kind: api.Hold, ID: 1, Name: strings.Repeat("\U0001f5ff", 24)},
		{Kind: api.Release, ID: 1, Name: "\u00e9"},
		{Kind: api.Delete, ID: top},
		{Kind: api.Tick},
		{Kind: api.Tick, Time: 129},
		{Kind: api.Tick, Time: 129},
	}
}

// wrong are events that are not valid.
func wrong() []api.Event {
	return []api.Event{
		{},
		{Kind: api.Create, ID: 1},
		{Kind: api.Create, ID: 1, Name: "a/b"},
		{Kind: api.Create, ID: 1, Name: "\xff"},
		{Kind: api.Create, ID: 1, Name: strings.Repeat("a", 300)},
		{Kind: api.Append, ID: 1},
		{Kind: api.Append, ID: 1, Len: 601},
		{Kind: api.Seal, ID: 1, Len: math.MinInt},
		{Kind: api.Extend, ID: 1, Time: top + 1},
		{Kind: api.Delete},
		{Kind: api.Delete, ID: -1},
		{Kind: api.Delete, ID: math.MaxInt},
		{Kind: api.Delete, ID: 1, Sum: api.Digest{1}},
		{Kind: api.Tick, ID: 1},
		{Kind: api.Tick, Time: -1},
		{Kind: api.Sweep},
		{Kind: -1, ID: 1},
		{Kind: math.MaxInt},
	}
}

func startHeads() []api.Digest {
	d := []api.Digest{{}, {31: 1}, {7}, sha256.Sum256([]byte("cenotaph")), sha256.Sum256(nil)}
	var full api.Digest
	for i := range full {
		full[i] = 0xff
	}
	return append(d, full)
}

// with is l with e put in at a place.
func with(l []api.Event, i int, e api.Event) []api.Event {
	return slices.Insert(slices.Clone(l), i, e)
}

// bytesOf is the bytes of a head, and an event that is valid behind them.
func bytesOf(head api.Digest, e api.Event) string {
	s, ok := event.Put(e)
	if !ok {
		panic("not valid")
	}
	return string(head[:]) + s
}

func digestOf(s string) api.Digest { return sha256.Sum256([]byte(s)) }

// inputsOf are all Inputs as the chapter's words say them, the digests of which are Heads.
func inputsOf(l []api.Event) []string {
	for _, e := range l {
		if !event.Valid(e) {
			return nil
		}
	}
	inputs := []string{"cenotaph"}
	for i, e := range l {
		inputs = append(inputs, bytesOf(digestOf(inputs[i]), e))
	}
	return inputs
}

// hold tells an error where Heads, Head or Input of l is not as the chapter says, or l is changed.
func hold(t *testing.T, l []api.Event) {
	t.Helper()
	kept := slices.Clone(l)
	inputs := inputsOf(l)
	heads := Heads(l)
	if len(heads) != len(inputs) {
		t.Fatalf("%v has %d heads", l, len(heads))
	}
	for i, input := range inputs {
		if heads[i] != digestOf(input) {
			t.Errorf("head %d of %v", i, l)
		}
		if got := Input(l, i); got != input || sha.Of(got) != heads[i] {
			t.Errorf("Input(%v, %d) = %q", l, i, got)
		}
		if d, ok := Head(Start(), l[:i]); d != heads[i] || !ok {
			t.Errorf("Head of %v = %v, %v", l[:i], d, ok)
		}
		if d, ok := Head(heads[i], l[i:]); d != heads[len(l)] || !ok {
			t.Errorf("Head from %d on of %v = %v, %v", i, l, d, ok)
		}
	}
	for _, i := range []int{math.MinInt, -len(l) - 1, -2, -1, len(inputs), len(inputs) + 1, len(inputs) + 256, 1 << 32, math.MaxInt} {
		if got := Input(l, i); got != "" {
			t.Errorf("Input(%v, %d) = %q", l, i, got)
		}
	}
	if inputs == nil {
		if d, ok := Head(Start(), l); d != (api.Digest{}) || ok {
			t.Errorf("Head of %v = %v, %v", l, d, ok)
		}
		for i := range len(l) + 2 {
			if got := Input(l, i); got != "" {
				t.Errorf("Input(%v, %d) = %q", l, i, got)
			}
		}
	}
	if !slices.Equal(l, kept) {
		t.Errorf("%v became %v", kept, l)
	}
}

// none tells an error where Collide of a and b tells anything, whichever is first.
func none(t *testing.T, a, b []api.Event) {
	t.Helper()
	keptA, keptB := slices.Clone(a), slices.Clone(b)
	if x, y, ok := Collide(a, b); x != "" || y != "" || ok {
		t.Errorf("Collide(%v, %v) = %q, %q, %v", a, b, x, y, ok)
	}
	if x, y, ok := Collide(b, a); x != "" || y != "" || ok {
		t.Errorf("Collide(%v, %v) = %q, %q, %v", b, a, x, y, ok)
	}
	if !slices.Equal(a, keptA) || !slices.Equal(b, keptB) {
		t.Errorf("%v or %v is changed", keptA, keptB)
	}
}

func TestStart(t *testing.T) {
	const want = "2c95c85eea096ca1d0b7deeec26e83d9083d300f8a21b66e3537cdf2271f6d6f"
	if got := sha.Text(Start()); got != want || Start() != sha.Of("cenotaph") {
		t.Error(got)
	}
}

func TestNext(t *testing.T) {
	for _, head := range append(startHeads(), Start()) {
		for _, e := range row() {
			s, _ := event.Put(e)
			got, ok := Next(head, e)
			if got != sha.Link(head, s) || got != digestOf(string(head[:])+s) || !ok {
				t.Errorf("Next(%v, %v) = %v, %v", head, e, got, ok)
			}
		}
		for _, e := range wrong() {
			if got, ok := Next(head, e); got != (api.Digest{}) || ok {
				t.Errorf("Next(%v, %v) = %v, %v", head, e, got, ok)
			}
		}
	}
}

// A head hangs on the head ahead, and on the event.
func TestNextOfOthersIsAnother(t *testing.T) {
	seen := map[api.Digest]bool{}
	events := row()[:9] // the last two are the same
	for _, head := range startHeads() {
		for _, e := range events {
			d, _ := Next(head, e)
			seen[d] = true
		}
	}
	if want := len(startHeads()) * len(events); len(seen) != want {
		t.Errorf("%d heads, not %d", len(seen), want)
	}
}

func TestHeadOfNoEvents(t *testing.T) {
	for _, head := range append(startHeads(), Start()) {
		for _, l := range [][]api.Event{nil, {}} {
			if got, ok := Head(head, l); got != head || !ok {
				t.Errorf("Head(%v, none) = %v, %v", head, got, ok)
			}
		}
	}
}

func TestHead(t *testing.T) {
	l := row()
	for _, head := range startHeads() {
		want := head
		for n := range len(l) + 1 {
			if got, ok := Head(head, l[:n]); got != want || !ok {
				t.Errorf("Head(%v) of %d = %v, %v", head, n, got, ok)
			}
			for cut := range n + 1 {
				part, _ := Head(head, l[:cut])
				if got, ok := Head(part, l[cut:n]); got != want || !ok {
					t.Errorf("Head(%v) of %d, and %d, = %v, %v", head, cut, n-cut, got, ok)
				}
			}
			if n < len(l) {
				want = digestOf(bytesOf(want, l[n]))
			}
		}
	}
}

func TestHeadOfWhatIsNotValid(t *testing.T) {
	l := row()
	for _, e := range wrong() {
		for i := range len(l) + 1 {
			if got, ok := Head(api.Digest{7}, with(l, i, e)); got != (api.Digest{}) || ok {
				t.Errorf("Head with %v at %d = %v, %v", e, i, got, ok)
			}
		}
		if got, ok := Head(api.Digest{7}, []api.Event{e}); got != (api.Digest{}) || ok {
			t.Errorf("Head of %v = %v, %v", e, got, ok)
		}
	}
}

func TestHeadsOfNoEvents(t *testing.T) {
	for _, l := range [][]api.Event{nil, {}} {
		if got := Heads(l); len(got) != 1 || got[0] != Start() {
			t.Error(got)
		}
		if Input(l, 0) != "cenotaph" || Input(l, 1) != "" || Input(l, -1) != "" {
			t.Error("Input of none")
		}
		hold(t, l)
	}
}

func TestHeads(t *testing.T) {
	l := row()
	for from := range l {
		for to := from; to <= len(l); to++ {
			hold(t, l[from:to])
		}
	}
	heads := Heads(l)
	for i, e := range l {
		if next, ok := Next(heads[i], e); next != heads[i+1] || !ok {
			t.Errorf("head %d", i+1)
		}
	}
}

func TestHeadsOfWhatIsNotValid(t *testing.T) {
	l := row()[:4]
	for _, e := range wrong() {
		hold(t, []api.Event{e})
		for i := range len(l) + 1 {
			bad := with(l, i, e)
			if got := Heads(bad); len(got) != 0 {
				t.Errorf("%v has %d heads", bad, len(got))
			}
			hold(t, bad)
		}
	}
}

// No input of a row is "cenotaph" but the first, and each is at one place alone.
func TestInputsAreOthers(t *testing.T) {
	l := slices.Repeat([]api.Event{{Kind: api.Tick, Time: 5}}, 20)
	seen := map[string]bool{}
	for i := range len(l) + 1 {
		seen[Input(l, i)] = true
	}
	if len(seen) != len(l)+1 || seen[""] {
		t.Errorf("%d inputs", len(seen))
	}
}

// To change what was told, or a row that was asked about, changes no later answer.
func TestHeadsAreNew(t *testing.T) {
	l := row()
	first := Heads(l)
	clear(first)
	l[0] = api.Event{Kind: api.Tick, Time: 1}
	if second := Heads(row()); second[0] != Start() || second[1] != digestOf(bytesOf(Start(), row()[0])) {
		t.Error(second)
	}
	hold(t, l)
}

func TestManyEvents(t *testing.T) {
	var l []api.Event
	for i := range api.MaxEvents + 50 {
		l = append(l, api.Event{Kind: api.Tick, Time: i})
	}
	heads, inputs := Heads(l), inputsOf(l)
	if len(heads) != len(l)+1 {
		t.Fatal(len(heads))
	}
	for i, input := range inputs {
		if heads[i] != digestOf(input) {
			t.Error(i)
		}
	}
	if Input(l, len(l)) != inputs[len(l)] || Input(l, len(l)+1) != "" {
		t.Error("the last input")
	}
	if d, ok := Head(Start(), l); d != heads[len(l)] || !ok {
		t.Error(d, ok)
	}
	none(t, l, slices.Clone(l))
	none(t, l, l[1:])
}

func TestCollideOfTheSame(t *testing.T) {
	none(t, nil, nil)
	none(t, nil, []api.Event{})
	l := row()
	for n := range len(l) + 1 {
		none(t, l[:n], l[:n])
		none(t, l[:n], slices.Clone(l[:n]))
	}
}

func TestCollideOfOtherHeads(t *testing.T) {
	l := row()
	for n := range len(l) {
		none(t, l, l[:n])
		none(t, l, l[n+1:])
		none(t, l, slices.Delete(slices.Clone(l), n, n+1))
		changed := slices.Clone(l)
		changed[n] = api.Event{Kind: api.Delete, ID: 77}
		none(t, l, changed)
		none(t, l[:n+1], changed)
		none(t, l, with(l, n, l[n]))
	}
	back := slices.Clone(l)
	slices.Reverse(back)
	none(t, l, back)
}

func TestCollideOfWhatIsNotValid(t *testing.T) {
	l := row()[:3]
	for _, e := range wrong() {
		none(t, []api.Event{e}, nil)
		none(t, []api.Event{e}, []api.Event{e})
		for i := range len(l) + 1 {
			bad := with(l, i, e)
			none(t, bad, l)
			none(t, bad, l[:i])
			none(t, bad, nil)
			none(t, bad, bad)
			for _, other := range wrong() {
				none(t, bad, with(l, i, other))
				none(t, bad, []api.Event{other})
			}
		}
	}
}

// Rows of one head are the same: as long as nobody knows two texts of one
// digest, that is all that can be seen from outside.
func TestRowsOfOneHeadAreTheSame(t *testing.T) {
	events := []api.Event{{Kind: api.Tick}, {Kind: api.Tick, Time: 1}, {Kind: api.Delete, ID: 1}, {Kind: api.Append, ID: 1, Len: 1}}
	byHead := map[api.Digest][]api.Event{}
	rows := [][]api.Event{nil}
	for len(rows) > 0 {
		l := rows[0]
		rows = rows[1:]
		d, _ := Head(Start(), l)
		if other, ok := byHead[d]; ok {
			t.Errorf("%v and %v are of one head", l, other)
		}
		byHead[d] = l
		for _, e := range events {
			if len(l) < 5 {
				rows = append(rows, with(l, len(l), e))
			}
		}
	}
	if len(byHead) != 1+4+16+64+256+1024 {
		t.Error(len(byHead))
	}
}

func TestApart(t *testing.T) {
	for _, c := range []struct {
		a, b []string
		x, y string
		ok   bool
	}{
		{nil, nil, "", "", false},
		{[]string{"s"}, nil, "", "", false},
		{nil, []string{"s"}, "", "", false},
		{[]string{"s"}, []string{"s"}, "", "", false},
		{[]string{"s", "a"}, []string{"s", "a"}, "", "", false},
		{[]string{"s", "a"}, []string{"s", "b"}, "a", "b", true},
		{[]string{"s", "b"}, []string{"s", "a"}, "b", "a", true},
		{[]string{"s", "a", "c"}, []string{"s", "b", "c"}, "a", "b", true},
		{[]string{"s", "a", "c", "e"}, []string{"s", "b", "d", "e"}, "c", "d", true},
		{[]string{"s"}, []string{"s", "a"}, "s", "a", true},
		{[]string{"s", "a", "b"}, []string{"s"}, "b", "s", true},
		{[]string{"s", "c"}, []string{"s", "a", "b", "c"}, "s", "b", true},
		{[]string{"s", "a", "b", "c"}, []string{"s", "c"}, "b", "s", true},
		{[]string{"s", "a", "b", "c"}, []string{"s", "b", "c"}, "a", "s", true},
	} {
		if x, y, ok := apart(c.a, c.b); x != c.x || y != c.y || ok != c.ok {
			t.Errorf("apart(%q, %q) = %q, %q, %v", c.a, c.b, x, y, ok)
		}
	}
}

// weak is a digest of two bits, of which many texts share one.
func weak(s string) api.Digest {
	n := 5
	for i := range len(s) {
		n = n*7 + int(s[i])*(i+3)
	}
	return api.Digest{9: byte(n >> 2 & 3)}
}

// weakLinks are the inputs and heads of a row, one event a letter, that is bound by weak digests.
func weakLinks(events string) iter.Seq2[string, api.Digest] {
	return func(yield func(string, api.Digest) bool) {
		input := "cenotaph"
		for i := range len(events) {
			head := weak(input)
			if !yield(input, head) {
				return
			}
			input = string(head[:]) + events[i:i+1]
		}
		yield(input, weak(input))
	}
}

// weakRows are all rows of at most five events of three.
func weakRows() []string {
	rows := []string{""}
	for i := 0; len(rows[i]) < 5; i++ {
		rows = append(rows, rows[i]+"a", rows[i]+"b", rows[i]+"c")
	}
	return rows
}

// By digests that are weak enough there are rows of one head that are not the
// same: of all of them two texts of one digest are told, and of no other rows.
func TestCollisionTellsTwoTextsOfOneDigest(t *testing.T) {
	told := 0
	rows := weakRows()
	for _, a := range rows {
		inputs, head := gathered(weakLinks(a))
		for _, b := range rows {
			others, other := gathered(weakLinks(b))
			x, y, ok := collision(weakLinks(a), weakLinks(b))
			if ok != (head == other && a != b) {
				t.Fatalf("collision of %q and %q is %v", a, b, ok)
			}
			if !ok && x+y != "" || ok && (x == y || weak(x) != weak(y)) {
				t.Fatalf("collision of %q and %q = %q, %q, %v", a, b, x, y, ok)
			}
			if !ok {
				continue
			}
			told++
			if !slices.Contains(inputs, x) || !slices.Contains(others, y) {
				t.Fatalf("collision of %q and %q = %q, %q: not theirs", a, b, x, y)
			}
		}
	}
	if told < 5*len(rows) {
		t.Errorf("%d collisions are too few", told)
	}
}

// A row that has no heads is of no head, not even of a zero one.
func TestCollisionOfNoHeads(t *testing.T) {
	no := func(func(string, api.Digest) bool) {}
	zero := func(yield func(string, api.Digest) bool) { yield("cenotaph", api.Digest{}) }
	for i, c := range [][2]iter.Seq2[string, api.Digest]{{no, no}, {no, zero}, {zero, no}, {zero, zero}} {
		if x, y, ok := collision(c[0], c[1]); x != "" || y != "" || ok {
			t.Errorf("%d: %q, %q, %v", i, x, y, ok)
		}
	}
}

// Whoever ranges over links may end at any place.
func TestLinksEndWhereTheyAreLeft(t *testing.T) {
	l := row()
	for n := 1; n <= len(l)+1; n++ {
		got := 0
		for range links(l) {
			got++
			if got == n {
				break
			}
		}
		if got != n {
			t.Errorf("%d, not %d", got, n)
		}
	}
}

// eventsOf are events of all kinds, as bytes tell them: some of them are not valid.
func eventsOf(b []byte) []api.Event {
	var l []api.Event
	for i := 0; i+2 < len(b) && len(l) < 12; i += 3 {
		n := int(b[i+1])
		e := api.Event{Kind: api.Kind(b[i] % 9)}
		if e.Kind != api.Tick {
			e.ID = n
		}
		switch e.Kind {
		case api.Create, api.Hold, api.Release:
			e.Name = string(b[i+2 : i+3])
		case api.Append:
			e.Len = int(b[i+2])
		case api.Seal:
			e.Time, e.Len, e.Sum[n%32] = int(b[i+2]), n, b[i+2]
		case api.Extend, api.Tick:
			e.Time = int(b[i+2])
		}
		l = append(l, e)
	}
	return l
}

func FuzzChain(f *testing.F) {
	f.Add([]byte("\x00\x01a\x01\x01\x03\x07\x00\x05"), []byte("\x07\x00\x05"))
	f.Add([]byte("\x02\x01\x03\x03\x01\x09\x04\x01b\x05\x01b\x06\x01\x00"), []byte("\x02\x01\x03\x08\x01\x01"))
	f.Add([]byte(""), []byte("\x00\x01/"))
	f.Fuzz(func(t *testing.T, x, y []byte) {
		a, b := eventsOf(x), eventsOf(y)
		hold(t, a)
		hold(t, b)
		one, two, ok := Collide(a, b)
		if ok && (one == two || sha.Of(one) != sha.Of(two)) || !ok && one+two != "" {
			t.Errorf("Collide(%v, %v) = %q, %q, %v", a, b, one, two, ok)
		}
		none(t, a, slices.Clone(a))
		d, valid := Head(Start(), a)
		other, otherValid := Head(Start(), b)
		if valid && otherValid && d == other && !ok && !slices.Equal(a, b) {
			t.Errorf("%v and %v are of one head", a, b)
		}
	})
}
