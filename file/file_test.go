package file

import (
	"crypto/sha256"
	"math"
	"slices"
	"strconv"
	"strings"
	"testing"

	"cenotaph/api"
	"cenotaph/event"
	"cenotaph/name"
	"cenotaph/rule"
)

const top = 1 << 40

// edges are IDs, times and floors: ordinary ones, the edges, and those beyond them.
func edges() []int {
	return []int{math.MinInt, -top, -1, 0, 1, 8, 9, 10, 1 << 31, 1 << 32, top - 1, top, top + 1, math.MaxInt}
}

// rows are Holds of files: in order, in none, of labels that are none, twice the same, and too many.
func rows() [][]string {
	return [][]string{
		nil,
		{},
		{"a"},
		{"\xff"},
		{"a", "c"},
		{"c", "a"},
		{"c", "c"},
		{"a/b", "", "c"},
		{"A", "a b", "\u00e9", "\U0001f5ff"},
		{"d", "c", "b", "a"},
		{"a", "b", "c", "d", "e"},
	}
}

// texts are what is appended, and labels.
func texts() []string {
	return []string{
		"", "a", "c", "e", " ", "a ", "a/b", "\n", "\x7f", "\xff", "\ufffd", "\u00e9", "\U0001f5ff",
		strings.Repeat("a", 24), strings.Repeat("a", 25),
		strings.Repeat("x", 598), strings.Repeat("x", 599), strings.Repeat("x", 600), strings.Repeat("\xff", 601), strings.Repeat("\u00e9", 3000),
	}
}

// datas are contents of files, of them some that are too long.
func datas() []string {
	return []string{"", "ab", "\u00e9\xff\x00", strings.Repeat("x", 599), strings.Repeat("x", 600), strings.Repeat("x", 601), strings.Repeat("x", 5000)}
}

// files are files, sealed and not, of many Untils, Holds and contents, most of which may not be.
func files() []api.File {
	var l []api.File
	for _, sealed := range []bool{false, true} {
		for i, until := range []int{0, 9, top, -1, math.MinInt, math.MaxInt} {
			for k, holds := range rows() {
				data := datas()[(i+k)%len(datas())]
				l = append(l, api.File{ID: edges()[(i+k)%len(edges())], Name: texts()[k], Data: data, Sealed: sealed, Until: until, Holds: holds})
			}
		}
	}
	return l
}

// kinds are the kinds of operations, and some that are none.
func kinds() []api.Kind {
	l := []api.Kind{math.MinInt, -2, -1, 12, 13, 256, math.MaxInt}
	for k := api.Create; k <= api.List; k++ {
		l = append(l, k)
	}
	return l
}

// alike is Same as the chapter's words say it.
func alike(a, b api.File) bool {
	if len(a.Holds) != len(b.Holds) {
		return false
	}
	for i, h := range a.Holds {
		if b.Holds[i] != h {
			return false
		}
	}
	a.Holds, b.Holds = nil, nil
	return a.ID == b.ID && a.Name == b.Name && a.Data == b.Data && a.Sealed == b.Sealed && a.Until == b.Until
}

// mayBe is Valid as the chapter's words say it.
func mayBe(f api.File) bool {
	ok := f.ID > 0 && f.ID <= 1<<40
	ok = ok && name.Valid(f.Name)
	ok = ok && len(f.Data) < 601
	ok = ok && f.Until > -1 && f.Until <= 1<<40
	if !f.Sealed && (f.Until != 0 || len(f.Holds) != 0) {
		ok = false
	}
	ok = ok && len(f.Holds) < 5
	for _, h := range f.Holds {
		ok = ok && name.Valid(h)
	}
	for i := 1; i < len(f.Holds); i++ {
		ok = ok && name.Less(f.Holds[i-1], f.Holds[i])
	}
	return ok
}

// appendOf is Append as the chapter's words say it.
func appendOf(f api.File, s string) (api.File, api.Errno) {
	if f.Sealed {
		return f, api.ErrSealed
	}
	if len(s) == 0 {
		return f, api.ErrArg
	}
	if len(f.Data+s) > 600 {
		return f, api.ErrMany
	}
	f.Data = f.Data + s
	return f, api.OK
}

// doOf is Do as the chapter's words say it.
func doOf(f api.File, o api.Op, floor int) (api.File, api.Event, api.Errno) {
	g, v, e := f, api.Event{}, api.ErrArg
	switch o.Kind {
	case api.Append:
		g, e = appendOf(f, o.Text)
		v = api.Event{Kind: 1, ID: f.ID, Len: len(o.Text)}
	case api.Seal:
		g, e = rule.Seal(f, o.Time)
		v = api.Event{Kind: 2, ID: f.ID, Time: o.Time, Len: len(f.Data), Sum: sha256.Sum256([]byte(f.Data))}
	case api.Extend:
		g, e = rule.Extend(f, o.Time)
		v = api.Event{Kind: 3, ID: f.ID, Time: o.Time}
	case api.Hold:
		g, e = rule.Hold(f, o.Text)
		v = api.Event{Kind: 4, ID: f.ID, Name: o.Text}
	case api.Release:
		g, e = rule.Release(f, o.Text)
		v = api.Event{Kind: 5, ID: f.ID, Name: o.Text}
	case api.Delete:
		g, e = api.File{}, rule.May(f, floor)
		v = api.Event{Kind: 6, ID: f.ID}
	case api.Create:
		e = api.ErrExists
	}
	if e != api.OK {
		return f, api.Event{}, e
	}
	return g, v, api.OK
}

// copied is f with nothing in common with it.
func copied(f api.File) api.File {
	f.Holds = append([]string{}, f.Holds...)
	return f
}

// leaves tells an error where call, which answers a file, changes the one that it
// is handed, or shares Holds with it, or with the room behind them.
func leaves(t *testing.T, called string, f api.File, call func(f api.File) api.File) {
	t.Helper()
	kept := copied(f)
	whole := append(append(make([]string, 0, len(f.Holds)+3), f.Holds...), "mark", "mark", "mark")
	before := slices.Clone(whole)
	f.Holds = whole[:len(f.Holds)]
	g := call(f)
	if !alike(f, kept) || !slices.Equal(whole, before) {
		t.Errorf("%s changed what was handed in, %v: %q", called, kept, whole)
	}
	all := g.Holds[:cap(g.Holds)]
	for i := range all {
		all[i] = "other"
	}
	if !slices.Equal(whole, before) {
		t.Errorf("%s of %v shares its Holds", called, kept)
	}
}

// does tells an error where Do does not answer as the chapter's words say.
func does(t *testing.T, f api.File, o api.Op, floor int) {
	t.Helper()
	want, wantEvent, wantErr := doOf(copied(f), o, floor)
	leaves(t, "Do", f, func(f api.File) api.File {
		g, v, e := Do(f, o, floor)
		if e != wantErr || v != wantEvent || !alike(g, want) {
			t.Errorf("Do(%v, %v, %d) = %v, %v, %d, not %v, %v, %d", f, o, floor, g, v, e, want, wantEvent, wantErr)
		}
		return g
	})
}

func TestNew(t *testing.T) {
	long := strings.Repeat("\U0001f5ff", 24)
	for _, x := range []struct {
		id   int
		s    string
		want api.Errno
	}{
		{1, "a", api.OK},
		{2, "a b", api.OK},
		{3, long, api.OK},
		{top - 1, "\u00e9", api.OK},
		{top, "a", api.OK},
		{top + 1, "a", api.ErrArg},
		{0, "a", api.ErrArg},
		{-1, "a", api.ErrArg},
		{math.MinInt, "a", api.ErrArg},
		{math.MaxInt, "a", api.ErrArg},
		{1, "", api.ErrName},
		{1, "a/b", api.ErrName},
		{1, " a", api.ErrName},
		{1, "a\xff", api.ErrName},
		{1, long + "a", api.ErrName},
		{top, "\n", api.ErrName},
		// That it is no name is asked first.
		{0, "", api.ErrName},
		{top + 1, "a/b", api.ErrName},
		{math.MinInt, "a ", api.ErrName},
	} {
		var want api.File
		if x.want == api.OK {
			want = api.File{ID: x.id, Name: x.s}
		}
		f, e := New(x.id, x.s)
		if e != x.want || !alike(f, want) {
			t.Errorf("New(%d, %q) = %v, %d", x.id, x.s, f, e)
		}
		if (e == api.OK) != Valid(f) {
			t.Errorf("New(%d, %q) = %v, which may be: %v", x.id, x.s, f, Valid(f))
		}
	}
}

func TestNewOfAll(t *testing.T) {
	for _, id := range edges() {
		for _, s := range texts() {
			want, wantErr := api.File{}, api.OK
			switch {
			case !name.Valid(s):
				wantErr = api.ErrName
			case id < 1 || id > top:
				wantErr = api.ErrArg
			default:
				want = api.File{ID: id, Name: s}
			}
			if f, e := New(id, s); e != wantErr || !alike(f, want) {
				t.Errorf("New(%d, %q) = %v, %d", id, s, f, e)
			}
		}
	}
}

func TestAppend(t *testing.T) {
	x := func(n int) string { return strings.Repeat("x", n) }
	for _, c := range []struct {
		data, s string
		want    api.Errno
	}{
		{"ab", "c", api.OK},
		{"", "a", api.OK},
		{"a", "\x00", api.OK},
		{"\xe6\x97", "\xa5", api.OK},
		{"", " /\n\xff", api.OK},
		{"", x(600), api.OK},
		{"a", x(599), api.OK},
		{x(599), "a", api.OK},
		{x(598), "a", api.OK},
		// Bytes are counted, not runes.
		{"", strings.Repeat("\u00e9", 300), api.OK},
		{"", strings.Repeat("\u00e9", 301), api.ErrMany},
		{"a", strings.Repeat("\u00e9", 300), api.ErrMany},
		{"", x(601), api.ErrMany},
		{"a", x(600), api.ErrMany},
		{"ab", x(599), api.ErrMany},
		{x(600), "a", api.ErrMany},
		{x(599), "ab", api.ErrMany},
		{x(5000), "a", api.ErrMany},
		{"", "", api.ErrArg},
		{"ab", "", api.ErrArg},
		{x(600), "", api.ErrArg},
		{x(601), "", api.ErrArg},
	} {
		f := api.File{ID: 1, Name: "n", Data: c.data}
		want := f
		if c.want == api.OK {
			want.Data = c.data + c.s
		}
		if g, e := Append(f, c.s); e != c.want || !alike(g, want) {
			t.Errorf("Append(%v, %q) = %v, %d", f, c.s, g, e)
		}
		// That it is sealed is asked first.
		sealed := api.File{ID: 1, Name: "n", Data: c.data, Sealed: true, Until: 5, Holds: []string{"a"}}
		if g, e := Append(sealed, c.s); e != api.ErrSealed || !alike(g, sealed) {
			t.Errorf("Append(%v, %q) = %v, %d", sealed, c.s, g, e)
		}
	}
}

// TestAppendOfEachLength: of 600 bytes together, and of one more.
func TestAppendOfEachLength(t *testing.T) {
	for n := range 603 {
		f := api.File{ID: 1, Name: "n", Data: strings.Repeat("d", n)}
		for _, k := range []int{600 - n, 601 - n} {
			if k < 1 {
				continue
			}
			s := strings.Repeat("s", k)
			want, wantErr := appendOf(f, s)
			if g, e := Append(f, s); e != wantErr || !alike(g, want) {
				t.Errorf("Append of %d to %d bytes: %d bytes, %d", k, n, len(g.Data), e)
			}
		}
	}
}

func TestAppendOfAll(t *testing.T) {
	for _, f := range files() {
		for _, s := range texts() {
			want, wantErr := appendOf(copied(f), s)
			leaves(t, "Append", f, func(f api.File) api.File {
				g, e := Append(f, s)
				if e != wantErr || !alike(g, want) {
					t.Errorf("Append(%v, %q) = %v, %d", f, s, g, e)
				}
				return g
			})
		}
	}
}

func TestExample(t *testing.T) {
	f, e := Append(api.File{ID: 7, Name: "n"}, "ab")
	if e != api.OK || f.Data != "ab" {
		t.Error(f, e)
	}
	g, v, e := Do(f, api.Op{Kind: api.Append, Name: "n", Text: "c"}, 0)
	if e != api.OK || g.Data != "abc" || v != (api.Event{Kind: api.Append, ID: 7, Len: 1}) {
		t.Error(g, v, e)
	}
}

func TestRead(t *testing.T) {
	for _, x := range []struct {
		data string
		a, b int
		want string
		err  api.Errno
	}{
		{"hello", 0, 5, "hello", api.OK},
		{"hello", 1, 3, "el", api.OK},
		{"hello", 4, 5, "o", api.OK},
		{"hello", 0, 0, "", api.OK},
		{"hello", 3, 3, "", api.OK},
		{"hello", 5, 5, "", api.OK},
		{"", 0, 0, "", api.OK},
		{"", 0, 1, "", api.ErrArg},
		{"hello", 0, 6, "", api.ErrArg},
		{"hello", 5, 6, "", api.ErrArg},
		{"hello", 6, 6, "", api.ErrArg},
		{"hello", 6, 5, "", api.ErrArg},
		{"hello", 3, 2, "", api.ErrArg},
		{"hello", 5, 0, "", api.ErrArg},
		{"hello", -1, 2, "", api.ErrArg},
		{"hello", -1, -1, "", api.ErrArg},
		{"hello", 0, -1, "", api.ErrArg},
		{"hello", math.MinInt, 2, "", api.ErrArg},
		{"hello", math.MinInt, math.MinInt, "", api.ErrArg},
		{"hello", 0, math.MaxInt, "", api.ErrArg},
		{"hello", math.MaxInt, math.MaxInt, "", api.ErrArg},
		{"hello", math.MaxInt, math.MinInt, "", api.ErrArg},
		{"hello", math.MinInt, math.MaxInt, "", api.ErrArg},
		// Bytes are read, not runes.
		{"\u00e9\xffa", 1, 3, "\xa9\xff", api.OK},
		{"\u00e9\xffa", 0, 4, "\u00e9\xffa", api.OK},
		{"\u00e9\xffa", 0, 5, "", api.ErrArg},
	} {
		for _, sealed := range []bool{false, true} {
			f := api.File{ID: 1, Name: "n", Data: x.data, Sealed: sealed, Holds: []string{"a"}}
			if s, e := Read(f, x.a, x.b); s != x.want || e != x.err {
				t.Errorf("Read(%q, %d, %d) = %q, %d", x.data, x.a, x.b, s, e)
			}
		}
	}
}

func TestReadOfAll(t *testing.T) {
	for _, data := range datas() {
		at := append(edges(), 2, 3, 4, 598, 599, 600, 601, 4999, 5000, 5001)
		for _, a := range at {
			for _, b := range at {
				want, wantErr := "", api.ErrArg
				if 0 <= a && a <= b && b <= len(data) {
					want, wantErr = strings.TrimPrefix(data[:b], data[:a]), api.OK
				}
				if s, e := Read(api.File{Data: data}, a, b); s != want || e != wantErr {
					t.Errorf("Read of %d bytes from %d to %d = %q, %d", len(data), a, b, s, e)
				}
			}
		}
	}
}

func TestMeta(t *testing.T) {
	f := api.File{ID: 3, Name: "n", Data: "abc", Sealed: true, Until: 9, Holds: []string{"a", "b"}}
	if g := Meta(f); !alike(g, api.File{ID: 3, Name: "n", Sealed: true, Until: 9, Holds: []string{"a", "b"}}) {
		t.Error(g)
	}
	if g := Meta(api.File{}); !alike(g, api.File{}) {
		t.Error(g)
	}
	for _, f := range files() {
		leaves(t, "Meta", f, func(f api.File) api.File {
			want := copied(f)
			want.Data = ""
			g := Meta(f)
			if !alike(g, want) {
				t.Errorf("Meta(%v) = %v", f, g)
			}
			return g
		})
	}
}

// change is a file that has become another one.
type change struct {
	what string
	to   func(f *api.File)
}

func TestValid(t *testing.T) {
	open := api.File{ID: 1, Name: "a", Data: "ab"}
	sealed := api.File{ID: 1, Name: "a", Data: "ab", Sealed: true, Until: 9, Holds: []string{"a", "b"}}
	both := []change{
		{"as it is", func(f *api.File) {}},
		{"the last ID", func(f *api.File) { f.ID = top }},
		{"the longest name", func(f *api.File) { f.Name = strings.Repeat("\u00e9", 24) }},
		{"no bytes", func(f *api.File) { f.Data = "" }},
		{"all bytes", func(f *api.File) { f.Data = strings.Repeat("\xff", 600) }},
		{"Until 0", func(f *api.File) { f.Until = 0 }},
		{"Holds nil", func(f *api.File) { f.Holds = nil }},
		{"Holds empty", func(f *api.File) { f.Holds = []string{} }},
	}
	of := []change{
		{"Until at the end", func(f *api.File) { f.Until = top }},
		{"one hold", func(f *api.File) { f.Holds = []string{"\u00e9"} }},
		{"four holds", func(f *api.File) { f.Holds = []string{"A", "a", "a b", "\U0001f5ff"} }},
		{"the longest hold", func(f *api.File) { f.Holds = []string{strings.Repeat("z", 24)} }},
		{"a hold that is the beginning of the next one", func(f *api.File) { f.Holds = []string{"a", "ab", "abc"} }},
	}
	for _, c := range both {
		f := open
		c.to(&f)
		if !Valid(f) {
			t.Errorf("not sealed, %s: %v may not be", c.what, f)
		}
	}
	for _, c := range append(both, of...) {
		f := copied(sealed)
		c.to(&f)
		if !Valid(f) {
			t.Errorf("sealed, %s: %v may not be", c.what, f)
		}
	}
}

func TestValidOfNone(t *testing.T) {
	open := api.File{ID: 1, Name: "a", Data: "ab"}
	sealed := api.File{ID: 1, Name: "a", Data: "ab", Sealed: true, Until: 9, Holds: []string{"a", "b"}}
	both := []change{
		{"ID 0", func(f *api.File) { f.ID = 0 }},
		{"ID below 0", func(f *api.File) { f.ID = -1 }},
		{"ID far below 0", func(f *api.File) { f.ID = math.MinInt }},
		{"ID beyond the last", func(f *api.File) { f.ID = top + 1 }},
		{"ID far beyond the last", func(f *api.File) { f.ID = math.MaxInt }},
		{"Name empty", func(f *api.File) { f.Name = "" }},
		{"Name none", func(f *api.File) { f.Name = "a/b" }},
		{"Name broken", func(f *api.File) { f.Name = "\xff" }},
		{"Name too long", func(f *api.File) { f.Name = strings.Repeat("a", 25) }},
		{"Data too long", func(f *api.File) { f.Data = strings.Repeat("a", 601) }},
		{"Data far too long", func(f *api.File) { f.Data = strings.Repeat("\u00e9", 500) }},
		{"Until below 0", func(f *api.File) { f.Until = -1 }},
		{"Until far below 0", func(f *api.File) { f.Until = math.MinInt }},
		{"Until beyond the end", func(f *api.File) { f.Until = top + 1 }},
		{"Until far beyond the end", func(f *api.File) { f.Until = math.MaxInt }},
		{"five holds", func(f *api.File) { f.Holds = []string{"a", "b", "c", "d", "e"} }},
		{"a hold that is empty", func(f *api.File) { f.Holds = []string{""} }},
		{"a hold that is no name", func(f *api.File) { f.Holds = []string{"/"} }},
		{"a first hold that is no name", func(f *api.File) { f.Holds = []string{"", "a", "b"} }},
		{"a second hold that is no name", func(f *api.File) { f.Holds = []string{"a", "b/", "c"} }},
		{"a last hold that is no name", func(f *api.File) { f.Holds = []string{"a", "b", "c", "\xff"} }},
		{"a hold that is too long", func(f *api.File) { f.Holds = []string{strings.Repeat("a", 25)} }},
		{"holds not in order", func(f *api.File) { f.Holds = []string{"b", "a"} }},
		{"last holds not in order", func(f *api.File) { f.Holds = []string{"a", "b", "d", "c"} }},
		{"a hold behind one that it is the beginning of", func(f *api.File) { f.Holds = []string{"ab", "a"} }},
		{"holds twice", func(f *api.File) { f.Holds = []string{"a", "a"} }},
		{"last holds twice", func(f *api.File) { f.Holds = []string{"a", "b", "b"} }},
		{"four holds, all one", func(f *api.File) { f.Holds = []string{"a", "a", "a", "a"} }},
	}
	of := []change{
		{"Until 1", func(f *api.File) { f.Until = 1 }},
		{"Until at the end", func(f *api.File) { f.Until = top }},
		{"a hold", func(f *api.File) { f.Holds = []string{"a"} }},
		{"holds", func(f *api.File) { f.Holds = []string{"a", "b"} }},
	}
	for _, c := range append(both, of...) {
		f := open
		c.to(&f)
		if Valid(f) {
			t.Errorf("not sealed, %s: %v may be", c.what, f)
		}
	}
	for _, c := range both {
		f := copied(sealed)
		c.to(&f)
		if Valid(f) {
			t.Errorf("sealed, %s: %v may be", c.what, f)
		}
	}
	if Valid(api.File{}) {
		t.Error("a zero one may be")
	}
}

func TestValidOfAll(t *testing.T) {
	for _, id := range edges() {
		for _, until := range edges() {
			for _, sealed := range []bool{false, true} {
				for _, holds := range rows() {
					for _, data := range datas() {
						f := api.File{ID: id, Name: "n", Data: data, Sealed: sealed, Until: until, Holds: holds}
						if got := Valid(f); got != mayBe(f) {
							t.Errorf("Valid(%v) = %v", f, got)
						}
					}
				}
			}
		}
	}
	for _, s := range texts() {
		f := api.File{ID: 1, Name: s, Sealed: true, Holds: []string{"a"}}
		g := api.File{ID: 1, Name: "n", Sealed: true, Holds: []string{s}}
		if Valid(f) != name.Valid(s) || Valid(g) != name.Valid(s) {
			t.Errorf("of %q: Valid %v, held %v", s, Valid(f), Valid(g))
		}
	}
}

func TestSame(t *testing.T) {
	f := api.File{ID: 1, Name: "a", Data: "ab", Sealed: true, Until: 9, Holds: []string{"a", "b"}}
	if g := copied(f); !Same(f, g) || !Same(f, f) {
		t.Error("one is not as itself")
	}
	for _, c := range []change{
		{"ID", func(g *api.File) { g.ID = 2 }},
		{"Name", func(g *api.File) { g.Name = "b" }},
		{"Name longer", func(g *api.File) { g.Name = "ab" }},
		{"Data", func(g *api.File) { g.Data = "ac" }},
		{"Data longer", func(g *api.File) { g.Data = "abc" }},
		{"Data none", func(g *api.File) { g.Data = "" }},
		{"Sealed", func(g *api.File) { g.Sealed = false }},
		{"Until", func(g *api.File) { g.Until = 10 }},
		{"Holds none", func(g *api.File) { g.Holds = nil }},
		{"Holds fewer", func(g *api.File) { g.Holds = []string{"a"} }},
		{"Holds more", func(g *api.File) { g.Holds = []string{"a", "b", "c"} }},
		{"Holds others", func(g *api.File) { g.Holds = []string{"a", "c"} }},
		{"Holds in another order", func(g *api.File) { g.Holds = []string{"b", "a"} }},
		{"Holds twice", func(g *api.File) { g.Holds = []string{"a", "a"} }},
	} {
		g := copied(f)
		c.to(&g)
		if Same(f, g) || Same(g, f) || !Same(g, copied(g)) {
			t.Errorf("%s: %v and %v", c.what, f, g)
		}
	}
	empty := api.File{Holds: []string{}}
	if !Same(empty, api.File{}) || !Same(api.File{}, empty) || !Same(empty, empty) || !Same(api.File{}, api.File{}) {
		t.Error("Holds without things are not alike")
	}
	one := api.File{Holds: []string{""}}
	if Same(one, empty) || Same(api.File{}, one) || !Same(one, copied(one)) {
		t.Error("an empty hold is as none")
	}
}

func TestSameOfAll(t *testing.T) {
	l := files()
	for i, f := range l {
		for k, g := range l {
			if got := Same(f, copied(g)); got != alike(f, g) || i == k && !got {
				t.Errorf("Same(%v, %v) = %v", f, g, got)
			}
		}
	}
}

// TestDo: what each operation comes to, with its event, and with each of its errors.
func TestDo(t *testing.T) {
	open := api.File{ID: 3, Name: "n", Data: "ab"}
	sealed := api.File{ID: 3, Name: "n", Data: "ab", Sealed: true, Until: 9}
	held := api.File{ID: 3, Name: "n", Data: "ab", Sealed: true, Until: 9, Holds: []string{"a", "c"}}
	full := api.File{ID: 3, Name: "n", Data: "ab", Sealed: true, Until: 9, Holds: []string{"a", "b", "c", "d"}}
	sum := api.Digest(sha256.Sum256([]byte("ab")))
	none := api.Digest(sha256.Sum256(nil))
	for _, x := range []struct {
		f     api.File
		o     api.Op
		floor int
		want  api.File
		event api.Event
		err   api.Errno
	}{
		{open, api.Op{Kind: api.Create, Name: "m"}, 0, open, api.Event{}, api.ErrExists},
		{held, api.Op{Kind: api.Create}, 9, held, api.Event{}, api.ErrExists},

		{open, api.Op{Kind: api.Append, Text: "c"}, 0, api.File{ID: 3, Name: "n", Data: "abc"}, api.Event{Kind: api.Append, ID: 3, Len: 1}, api.OK},
		{open, api.Op{Kind: api.Append, Text: strings.Repeat("\u00e9", 299)}, 0, api.File{ID: 3, Name: "n", Data: "ab" + strings.Repeat("\u00e9", 299)}, api.Event{Kind: api.Append, ID: 3, Len: 598}, api.OK},
		{open, api.Op{Kind: api.Append, Text: strings.Repeat("\u00e9", 300)}, 0, open, api.Event{}, api.ErrMany},
		{open, api.Op{Kind: api.Append}, 0, open, api.Event{}, api.ErrArg},
		{held, api.Op{Kind: api.Append, Text: "c"}, 99, held, api.Event{}, api.ErrSealed},

		{open, api.Op{Kind: api.Seal, Time: 7}, 8, api.File{ID: 3, Name: "n", Data: "ab", Sealed: true, Until: 7}, api.Event{Kind: api.Seal, ID: 3, Time: 7, Len: 2, Sum: sum}, api.OK},
		{open, api.Op{Kind: api.Seal}, 0, api.File{ID: 3, Name: "n", Data: "ab", Sealed: true}, api.Event{Kind: api.Seal, ID: 3, Len: 2, Sum: sum}, api.OK},
		{api.File{ID: 4, Name: "m"}, api.Op{Kind: api.Seal, Time: top}, 0, api.File{ID: 4, Name: "m", Sealed: true, Until: top}, api.Event{Kind: api.Seal, ID: 4, Time: top, Sum: none}, api.OK},
		{open, api.Op{Kind: api.Seal, Time: -1}, 0, open, api.Event{}, api.ErrArg},
		{open, api.Op{Kind: api.Seal, Time: top + 1}, 0, open, api.Event{}, api.ErrArg},
		{held, api.Op{Kind: api.Seal, Time: 9}, 0, held, api.Event{}, api.ErrSealed},

		{sealed, api.Op{Kind: api.Extend, Time: 9}, 0, sealed, api.Event{Kind: api.Extend, ID: 3, Time: 9}, api.OK},
		{held, api.Op{Kind: api.Extend, Time: top}, 99, api.File{ID: 3, Name: "n", Data: "ab", Sealed: true, Until: top, Holds: []string{"a", "c"}}, api.Event{Kind: api.Extend, ID: 3, Time: top}, api.OK},
		{held, api.Op{Kind: api.Extend, Time: 8}, 0, held, api.Event{}, api.ErrShorter},
		{held, api.Op{Kind: api.Extend, Time: -1}, 0, held, api.Event{}, api.ErrArg},
		{held, api.Op{Kind: api.Extend, Time: top + 1}, 0, held, api.Event{}, api.ErrArg},
		{open, api.Op{Kind: api.Extend, Time: 9}, 0, open, api.Event{}, api.ErrOpen},

		{held, api.Op{Kind: api.Hold, Text: "b"}, 0, api.File{ID: 3, Name: "n", Data: "ab", Sealed: true, Until: 9, Holds: []string{"a", "b", "c"}}, api.Event{Kind: api.Hold, ID: 3, Name: "b"}, api.OK},
		{sealed, api.Op{Kind: api.Hold, Name: "n", Text: "x"}, 99, api.File{ID: 3, Name: "n", Data: "ab", Sealed: true, Until: 9, Holds: []string{"x"}}, api.Event{Kind: api.Hold, ID: 3, Name: "x"}, api.OK},
		{held, api.Op{Kind: api.Hold, Text: "c"}, 0, held, api.Event{}, api.ErrExists},
		{held, api.Op{Kind: api.Hold, Text: "a/b"}, 0, held, api.Event{}, api.ErrName},
		{held, api.Op{Kind: api.Hold, Name: "b"}, 0, held, api.Event{}, api.ErrName},
		{full, api.Op{Kind: api.Hold, Text: "e"}, 0, full, api.Event{}, api.ErrMany},
		{open, api.Op{Kind: api.Hold, Text: "b"}, 0, open, api.Event{}, api.ErrOpen},

		{held, api.Op{Kind: api.Release, Text: "a"}, 0, api.File{ID: 3, Name: "n", Data: "ab", Sealed: true, Until: 9, Holds: []string{"c"}}, api.Event{Kind: api.Release, ID: 3, Name: "a"}, api.OK},
		{held, api.Op{Kind: api.Release, Text: "b"}, 0, held, api.Event{}, api.ErrNone},
		{held, api.Op{Kind: api.Release, Name: "a"}, 0, held, api.Event{}, api.ErrNone},
		{open, api.Op{Kind: api.Release, Text: "a"}, 0, open, api.Event{}, api.ErrNone},

		{sealed, api.Op{Kind: api.Delete}, 9, api.File{}, api.Event{Kind: api.Delete, ID: 3}, api.OK},
		{sealed, api.Op{Kind: api.Delete, Name: "m", Text: "x", Time: 5, A: 1, B: 2}, top, api.File{}, api.Event{Kind: api.Delete, ID: 3}, api.OK},
		{sealed, api.Op{Kind: api.Delete, Time: 9}, 8, sealed, api.Event{}, api.ErrRetained},
		{held, api.Op{Kind: api.Delete}, 8, held, api.Event{}, api.ErrRetained},
		{held, api.Op{Kind: api.Delete}, 9, held, api.Event{}, api.ErrHeld},
		{open, api.Op{Kind: api.Delete}, 9, open, api.Event{}, api.ErrOpen},

		{held, api.Op{Kind: api.Tick, Time: 5}, 0, held, api.Event{}, api.ErrArg},
		{held, api.Op{Kind: api.Sweep}, 9, held, api.Event{}, api.ErrArg},
		{held, api.Op{Kind: api.Read, B: 1}, 0, held, api.Event{}, api.ErrArg},
		{held, api.Op{Kind: api.Stat}, 0, held, api.Event{}, api.ErrArg},
		{held, api.Op{Kind: api.List}, 0, held, api.Event{}, api.ErrArg},
		{held, api.Op{Kind: -1}, 0, held, api.Event{}, api.ErrArg},
		{held, api.Op{Kind: 12}, 0, held, api.Event{}, api.ErrArg},
		{open, api.Op{Kind: math.MaxInt, Text: "a"}, 0, open, api.Event{}, api.ErrArg},
		{open, api.Op{Kind: math.MinInt, Text: "a"}, 0, open, api.Event{}, api.ErrArg},
	} {
		g, v, e := Do(x.f, x.o, x.floor)
		if e != x.err || v != x.event || !alike(g, x.want) {
			t.Errorf("Do(%v, %v, %d) = %v, %v, %d, not %v, %v, %d", x.f, x.o, x.floor, g, v, e, x.want, x.event, x.err)
		}
	}
}

// TestDoOfAll does all kinds of operations on files, most of which may not be.
func TestDoOfAll(t *testing.T) {
	for _, f := range files() {
		for _, k := range kinds() {
			for i, s := range texts() {
				does(t, f, api.Op{Kind: k, Name: f.Name, Text: s, Time: edges()[i%len(edges())], A: i, B: -i}, 9-i)
			}
			for _, at := range edges() {
				does(t, f, api.Op{Kind: k, Name: "m", Text: "b", Time: at}, 5)
				does(t, f, api.Op{Kind: k, Name: "m", Text: "b", Time: 5}, at)
			}
		}
	}
}

// few are operations by which a file comes to be all that it may, in small.
func few() []api.Op {
	l := []api.Op{{Kind: api.Create, Name: "n"}, {Kind: api.Delete}, {Kind: api.Sweep}, {Kind: api.List}, {Kind: -1}}
	for _, k := range []api.Kind{api.Hold, api.Release} {
		for _, s := range []string{"A", "a", "b", "\u00e9", "\U0001f5ff", "", "a/b", "\xff"} {
			l = append(l, api.Op{Kind: k, Text: s})
		}
	}
	for _, k := range []api.Kind{api.Seal, api.Extend, api.Tick} {
		for _, at := range []int{math.MinInt, -1, 0, 5, top, top + 1} {
			l = append(l, api.Op{Kind: k, Time: at})
		}
	}
	for _, n := range []int{0, 150, 300, 600, 601} {
		l = append(l, api.Op{Kind: api.Append, Text: strings.Repeat("x", n)})
	}
	return l
}

// key tells a file that may be from all others of its ID and Name.
func key(f api.File) string {
	s := f.Data + "/" + strings.Join(f.Holds, "/")
	if f.Sealed {
		return strconv.Itoa(f.Until) + "/" + s
	}
	return "open/" + s
}

// TestStaysOneThatMayBe goes to all files that come to be by a few operations:
// each may be, or is zero, once it went; what changed it is told by an event that
// may be; and what is sealed keeps its bytes.
func TestStaysOneThatMayBe(t *testing.T) {
	first, e := New(5, "n")
	if e != api.OK {
		t.Fatal(e)
	}
	seen := map[string]int{}
	went := 0
	for work := []api.File{first}; len(work) > 0; work = work[1:] {
		f := work[0]
		if seen[key(f)]++; seen[key(f)] > 1 {
			continue
		}
		for _, o := range few() {
			for _, floor := range []int{0, 5, top} {
				g, v, e := Do(f, o, floor)
				stays(t, f, o, floor, g, v, e)
				if o.Kind == api.Delete && e == api.OK {
					went++
				} else {
					work = append(work, g)
				}
			}
		}
	}
	// Of 0, 150, 300, 450, or 600 bytes; and not sealed, or of three Untils, and of
	// five holds at most four: 1 + 3 * (1 + 5 + 10 + 10 + 5).
	if len(seen) != 5*94 || went == 0 {
		t.Errorf("%d files, %d went", len(seen), went)
	}
}

// stays tells an error where what is done to an f that may be makes one of it that may not.
func stays(t *testing.T, f api.File, o api.Op, floor int, g api.File, v api.Event, e api.Errno) {
	t.Helper()
	deleted := o.Kind == api.Delete && e == api.OK
	switch {
	case e != api.OK && (!Same(f, g) || v != api.Event{}):
		t.Errorf("Do(%v, %v, %d) with error %d = %v, %v", f, o, floor, e, g, v)
	case e == api.OK && (v.Kind != o.Kind || v.ID != f.ID || !event.Valid(v)):
		t.Errorf("Do(%v, %v, %d) is told by %v", f, o, floor, v)
	case deleted && (!Same(g, api.File{}) || rule.Kept(f, floor) || !f.Sealed):
		t.Errorf("%v went at %d: %v", f, floor, g)
	case !deleted && (!Valid(g) || g.ID != f.ID || g.Name != f.Name):
		t.Errorf("Do(%v, %v, %d) = %v, which may not be", f, o, floor, g)
	case !deleted && f.Sealed && (g.Data != f.Data || !g.Sealed || g.Until < f.Until):
		t.Errorf("%v is sealed, but behind %v it is %v", f, o, g)
	}
}

// TestKeepsItsBytes: whatever sealed file it is, and whatever is done to it, it keeps its bytes till it goes.
func TestKeepsItsBytes(t *testing.T) {
	for _, f := range files() {
		if g, e := Append(f, "x"); f.Sealed && (e != api.ErrSealed || g.Data != f.Data) {
			t.Errorf("Append to %v: %v, %d", f, g, e)
		}
		for _, k := range kinds() {
			for _, s := range texts() {
				g, _, e := Do(f, api.Op{Kind: k, Text: s, Time: len(s)}, 9)
				if went := k == api.Delete && e == api.OK; f.Sealed && !went && (g.Data != f.Data || !g.Sealed) {
					t.Errorf("%v is sealed, but behind %d of %q it is %v", f, k, s, g)
				}
			}
		}
	}
}

// FuzzFile asks all calls by a file whose Holds are the lines of a text.
func FuzzFile(f *testing.F) {
	f.Add("n", "ab", "a\nc", "b", true, 3, 9, 8, 4, 20)
	f.Add("n", "ab", "", "c", false, 1, 0, 0, 1, 0)
	f.Add("a/b", strings.Repeat("x", 600), "c\na\nb\nd\ne", "", true, top, -1, top+1, 6, -1)
	f.Add("", strings.Repeat("x", 599), "a\na", "a", false, 0, math.MaxInt, math.MinInt, 2, 5)
	f.Add("\u00e9", "\xff", "\xff\n\u00e9", "\U0001f5ff", true, -1, 5, 5, 12, 5)
	f.Fuzz(func(t *testing.T, s, data, lines, text string, sealed bool, id, until, floor, kind, at int) {
		g := api.File{ID: id, Name: s, Data: data, Sealed: sealed, Until: until}
		if lines != "" {
			g.Holds = strings.Split(lines, "\n")
		}
		if got := Valid(g); got != mayBe(g) || !Same(g, copied(g)) {
			t.Errorf("Valid(%v) = %v", g, got)
		}
		n, e := New(id, s)
		if e == api.OK && !alike(n, api.File{ID: id, Name: s}) || e != api.OK && !alike(n, api.File{}) || (e == api.OK) != Valid(n) {
			t.Errorf("New(%d, %q) = %v, %d", id, s, n, e)
		}
		for k := api.Create; k <= api.List; k++ {
			does(t, g, api.Op{Kind: k, Name: s, Text: text, Time: at}, floor)
		}
		does(t, g, api.Op{Kind: api.Kind(kind), Name: s, Text: text, Time: at}, floor)
		read, e := Read(g, at, until)
		if in := 0 <= at && at <= until && until <= len(data); in != (e == api.OK) || in && data[:at]+read+data[until:] != data || !in && read != "" {
			t.Errorf("Read(%q, %d, %d) = %q, %d", data, at, until, read, e)
		}
		if m := Meta(g); m.Data != "" || !Same(api.File{ID: g.ID, Name: g.Name, Sealed: g.Sealed, Until: g.Until, Holds: g.Holds}, m) {
			t.Errorf("Meta(%v) = %v", g, m)
		}
	})
}
