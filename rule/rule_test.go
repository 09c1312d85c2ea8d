package rule

import (
	"maps"
	"math"
	"slices"
	"strings"
	"testing"

	"cenotaph/api"
	"cenotaph/name"
)

const top = 1 << 40

// times are times, floors and Untils: ordinary ones, the edges, and those beyond them.
func times() []int {
	return []int{math.MinInt, -top, -1, 0, 1, 8, 9, 10, 1 << 31, 1 << 32, top - 1, top, top + 1, 1 << 50, math.MaxInt}
}

// rows are Holds of files: in order, in none, of labels that are none, twice the same, and too many.
func rows() [][]string {
	return [][]string{
		nil,
		{},
		{"a"},
		{"c"},
		{""},
		{"a/b"},
		{"\xff"},
		{"a", "c"},
		{"c", "a"},
		{"c", "c"},
		{"b", "d", "f"},
		{"f", "d", "b"},
		{"d", "b", "f"},
		{"d", "", "d"},
		{"B", "a", "\u00e9"},
		{"\xff", "\u00e9", "\U0001f5ff"},
		{"a", "b", "c", "d"},
		{"d", "c", "b", "a"},
		{"c", "c", "c", "c"},
		{"a", "b", "c", "d", "e"},
		{"e", "a", "e", "b", "e", "c", "e"},
	}
}

// labels are labels that are names, and that are none.
func labels() []string {
	return []string{
		"", " ", " a", "a ", "a/b", "/", "\n", "a\x7f", "\u0080", "\u009f", "\xff", "a\xffb", "\ufffd",
		strings.Repeat("a", 25), strings.Repeat("\u00e9", 25), strings.Repeat("a", 3000),
		"a", "b", "c", "d", "e", "f", "g", "A", "B", "ab", "a b", "\u00a0", "\u00e9", "\U0001f5ff", "\uffee",
		strings.Repeat("a", 24), strings.Repeat("\U0001f5ff", 24),
	}
}

// files are files, sealed and not, of all Untils and Holds.
func files() []api.File {
	var l []api.File
	for i, until := range times() {
		for k, holds := range rows() {
			for _, sealed := range []bool{false, true} {
				l = append(l, api.File{ID: 100*i + k - 50, Name: "n\xff", Data: strings.Repeat("x", i*50), Sealed: sealed, Until: until, Holds: holds})
			}
		}
	}
	return l
}

// alike tells whether two files are so, part by part.
func alike(a, b api.File) bool {
	return a.ID == b.ID && a.Name == b.Name && a.Data == b.Data && a.Sealed == b.Sealed && a.Until == b.Until && slices.Equal(a.Holds, b.Holds)
}

// copied is f with nothing in common with it.
func copied(f api.File) api.File {
	f.Holds = append([]string{}, f.Holds...)
	return f
}

// roomy is f with Holds that have room behind them, in which a mark stands that
// nobody may write over.
func roomy(f api.File) (api.File, []string) {
	whole := append(append(make([]string, 0, len(f.Holds)+3), f.Holds...), "mark", "mark", "mark")
	f.Holds = whole[:len(f.Holds)]
	return f, whole
}

// mayOf is May as the chapter's words say it.
func mayOf(f api.File, floor int) api.Errno {
	if !f.Sealed {
		return api.ErrOpen
	}
	if f.Until > floor {
		return api.ErrRetained
	}
	if len(f.Holds) != 0 {
		return api.ErrHeld
	}
	return api.OK
}

// holdOf is Hold as the chapter's words say it.
func holdOf(f api.File, label string) (api.File, api.Errno) {
	f = copied(f)
	if !f.Sealed {
		return f, api.ErrOpen
	}
	if !name.Valid(label) {
		return f, api.ErrName
	}
	for _, h := range f.Holds {
		if h == label {
			return f, api.ErrExists
		}
	}
	if len(f.Holds) > 3 {
		return f, api.ErrMany
	}
	var holds []string
	put := false
	for _, h := range f.Holds {
		if !put && !name.Less(h, label) {
			holds = append(holds, label)
			put = true
		}
		holds = append(holds, h)
	}
	if !put {
		holds = append(holds, label)
	}
	f.Holds = holds
	return f, api.OK
}

// releaseOf is Release as the chapter's words say it.
func releaseOf(f api.File, label string) (api.File, api.Errno) {
	var holds []string
	gone := false
	for _, h := range f.Holds {
		if h == label && !gone {
			gone = true
			continue
		}
		holds = append(holds, h)
	}
	f.Holds = holds
	if !gone {
		return f, api.ErrNone
	}
	return f, api.OK
}

// sealOf is Seal as the chapter's words say it.
func sealOf(f api.File, until int) (api.File, api.Errno) {
	f = copied(f)
	if f.Sealed {
		return f, api.ErrSealed
	}
	if until < 0 || until > 1<<40 {
		return f, api.ErrArg
	}
	f.Sealed = true
	f.Until = until
	return f, api.OK
}

// extendOf is Extend as the chapter's words say it.
func extendOf(f api.File, until int) (api.File, api.Errno) {
	f = copied(f)
	if !f.Sealed {
		return f, api.ErrOpen
	}
	if until < 0 || until > 1<<40 {
		return f, api.ErrArg
	}
	if until < f.Until {
		return f, api.ErrShorter
	}
	f.Until = until
	return f, api.OK
}

// change is one of the calls that answer a file, by what it is asked with.
type change[A int | string] func(api.File, A) (api.File, api.Errno)

// changes tells an error where call, of that name, answers another file or error
// than want, changes f, or shares Holds with it.
func changes[A int | string](t *testing.T, called string, call, want change[A], f api.File, arg A) {
	t.Helper()
	kept := copied(f)
	f, whole := roomy(f)
	before := slices.Clone(whole)
	g, e := call(f, arg)
	wantFile, wantErr := want(kept, arg)
	if e != wantErr || !alike(g, wantFile) {
		t.Errorf("%s(%v, %v) = %v, %v, not %v, %v", called, f, arg, g, e, wantFile, wantErr)
	}
	if e != api.OK && !alike(g, kept) {
		t.Errorf("%s(%v, %v) with error %d is %v", called, f, arg, e, g)
	}
	if !alike(f, kept) || !slices.Equal(whole, before) {
		t.Errorf("%s(%v, %v) changed what was handed in: %q", called, kept, arg, whole)
	}
	all := g.Holds[:cap(g.Holds)]
	for i := range all {
		all[i] = "other"
	}
	if !slices.Equal(whole, before) {
		t.Errorf("%s(%v, %v) shares its Holds", called, kept, arg)
	}
}

func TestFloor(t *testing.T) {
	for _, x := range []struct{ floor, t, want int }{
		{0, 0, 0},
		{0, 5, 5},
		{5, 3, 5},
		{3, 5, 5},
		{5, 5, 5},
		{5, -1, 5},
		{0, -1, 0},
		{-3, -1, 0},
		{-3, -9, 0},
		{math.MinInt, math.MinInt, 0},
		{-1, 7, 7},
		{0, top - 1, top - 1},
		{0, top, top},
		{0, top + 1, top},
		{0, 1 << 50, top},
		{top, math.MaxInt, top},
		{top + 1, math.MaxInt, top + 1},
		{1 << 50, 3, 1 << 50},
		{math.MaxInt, math.MinInt, math.MaxInt},
	} {
		if got := Floor(x.floor, x.t); got != x.want {
			t.Errorf("Floor(%d, %d) = %d", x.floor, x.t, got)
		}
	}
}

func TestFloorNeverFalls(t *testing.T) {
	for _, floor := range times() {
		for _, a := range times() {
			got := Floor(floor, a)
			if got < floor || got < 0 || floor <= top && got > top {
				t.Errorf("Floor(%d, %d) = %d", floor, a, got)
			}
			if got != floor && got != a && got != 0 && got != top {
				t.Errorf("Floor(%d, %d) = %d, which was not told", floor, a, got)
			}
			if a >= 0 && a <= top && got < a {
				t.Errorf("Floor(%d, %d) = %d", floor, a, got)
			}
			if again := Floor(got, a); again != got {
				t.Errorf("Floor(%d, %d) = %d, and then %d", floor, a, got, again)
			}
			for _, b := range times() {
				if Floor(got, b) != Floor(Floor(floor, b), a) {
					t.Errorf("Floor of %d hangs on the order of %d and %d", floor, a, b)
				}
			}
		}
	}
}

func TestMay(t *testing.T) {
	sealed := api.File{ID: 1, Name: "a", Data: "ab", Sealed: true, Until: 9}
	held := sealed
	held.Holds = []string{"x"}
	open := sealed
	open.Sealed = false
	openHeld := held
	openHeld.Sealed = false
	forever := sealed
	forever.Until = math.MaxInt
	for _, x := range []struct {
		f     api.File
		floor int
		want  api.Errno
	}{
		{api.File{}, 0, api.ErrOpen},
		{api.File{}, top, api.ErrOpen},
		{open, 8, api.ErrOpen},
		{open, 9, api.ErrOpen},
		{openHeld, 8, api.ErrOpen},
		{openHeld, 9, api.ErrOpen},
		{sealed, math.MinInt, api.ErrRetained},
		{sealed, -1, api.ErrRetained},
		{sealed, 0, api.ErrRetained},
		{sealed, 8, api.ErrRetained},
		{sealed, 9, api.OK},
		{sealed, 10, api.OK},
		{sealed, math.MaxInt, api.OK},
		{held, 8, api.ErrRetained},
		{held, 9, api.ErrHeld},
		{held, top, api.ErrHeld},
		{api.File{Sealed: true}, 0, api.OK},
		{api.File{Sealed: true, Holds: []string{}}, 0, api.OK},
		{api.File{Sealed: true, Holds: []string{""}}, 0, api.ErrHeld},
		{api.File{Sealed: true}, -1, api.ErrRetained},
		{api.File{Sealed: true, Until: -1}, -1, api.OK},
		{api.File{Sealed: true, Until: math.MinInt}, math.MinInt, api.OK},
		{forever, math.MaxInt - 1, api.ErrRetained},
		{forever, math.MaxInt, api.OK},
	} {
		if got := May(x.f, x.floor); got != x.want {
			t.Errorf("May(%v, %d) = %d", x.f, x.floor, got)
		}
		if got := Kept(x.f, x.floor); got != (x.want == api.ErrRetained || x.want == api.ErrHeld) {
			t.Errorf("Kept(%v, %d) = %v", x.f, x.floor, got)
		}
	}
}

func TestMayOfAll(t *testing.T) {
	for _, f := range files() {
		kept := copied(f)
		for _, floor := range times() {
			want := mayOf(f, floor)
			if got := May(f, floor); got != want {
				t.Errorf("May(%v, %d) = %d", f, floor, got)
			}
			if got := Kept(f, floor); got != (f.Sealed && (f.Until > floor || len(f.Holds) > 0)) {
				t.Errorf("Kept(%v, %d) = %v", f, floor, got)
			}
		}
		if !alike(f, kept) {
			t.Errorf("%v became %v", kept, f)
		}
	}
}

func TestDue(t *testing.T) {
	due := api.File{ID: 7, Sealed: true, Until: 10}
	held := api.File{ID: 4, Sealed: true, Until: 10, Holds: []string{"x"}}
	open := api.File{ID: 5}
	later := api.File{ID: 6, Sealed: true, Until: 11}
	odd := api.File{ID: math.MinInt, Sealed: true, Until: math.MinInt}
	for _, x := range []struct {
		l     []api.File
		floor int
		want  []int
	}{
		{nil, 10, nil},
		{[]api.File{}, 10, nil},
		{[]api.File{due}, 9, nil},
		{[]api.File{due}, 10, []int{7}},
		{[]api.File{held, open, later}, 10, nil},
		{[]api.File{due, held, open, later}, 10, []int{7}},
		{[]api.File{due, held, open, later}, 11, []int{7, 6}},
		{[]api.File{later, open, held, due}, 11, []int{6, 7}},
		{[]api.File{due, open, odd}, 10, []int{7, math.MinInt}},
		{[]api.File{due, due, {Sealed: true}, due}, 10, []int{7, 7, 0, 7}},
		{[]api.File{{ID: 1, Sealed: true}, {ID: 2, Sealed: true}, {ID: 3, Sealed: true}}, 0, []int{1, 2, 3}},
	} {
		if got := Due(x.l, x.floor); !slices.Equal(got, x.want) {
			t.Errorf("Due(%v, %d) = %v", x.l, x.floor, got)
		}
	}
}

func TestDueOfAll(t *testing.T) {
	l := files()
	var kept []api.File
	for _, f := range l {
		kept = append(kept, copied(f))
	}
	for _, floor := range times() {
		var want []int
		for _, f := range kept {
			if mayOf(f, floor) == api.OK {
				want = append(want, f.ID)
			}
		}
		if got := Due(l, floor); !slices.Equal(got, want) {
			t.Errorf("Due of all, at %d, is %v, not %v", floor, got, want)
		}
	}
	for i := range l {
		if !alike(l[i], kept[i]) {
			t.Errorf("%v became %v", kept[i], l[i])
		}
	}
}

// TestDueStops asks for fewer than there are, which whoever ranges over them may.
func TestDueStops(t *testing.T) {
	l := []api.File{{ID: 1}, {ID: 2, Sealed: true}, {ID: 3, Sealed: true}, {ID: 4, Sealed: true}}
	for most := 1; most <= 3; most++ {
		var got []int
		for id := range due(l, 0) {
			if got = append(got, id); len(got) == most {
				break
			}
		}
		if !slices.Equal(got, []int{2, 3, 4}[:most]) {
			t.Errorf("the first %d that are due are %v", most, got)
		}
	}
}

func TestSeal(t *testing.T) {
	f := api.File{ID: 1, Name: "a", Data: "abc"}
	for until, want := range map[int]api.Errno{
		math.MinInt: api.ErrArg,
		-1:          api.ErrArg,
		0:           api.OK,
		1:           api.OK,
		20:          api.OK,
		top - 1:     api.OK,
		top:         api.OK,
		top + 1:     api.ErrArg,
		math.MaxInt: api.ErrArg,
	} {
		g, e := Seal(f, until)
		wantFile := f
		if want == api.OK {
			wantFile = api.File{ID: 1, Name: "a", Data: "abc", Sealed: true, Until: until}
		}
		if e != want || !alike(g, wantFile) {
			t.Errorf("Seal until %d = %v, %d", until, g, e)
		}
		// That it is sealed is asked first.
		sealed := api.File{ID: 1, Sealed: true, Until: 5, Holds: []string{"x"}}
		if g, e := Seal(sealed, until); e != api.ErrSealed || !alike(g, sealed) {
			t.Errorf("Seal of one that is sealed, until %d = %v, %d", until, g, e)
		}
	}
}

func TestExtend(t *testing.T) {
	f := api.File{ID: 1, Name: "a", Data: "abc", Sealed: true, Until: 20, Holds: []string{"x", "y"}}
	for until, want := range map[int]api.Errno{
		math.MinInt: api.ErrArg,
		-1:          api.ErrArg,
		0:           api.ErrShorter,
		19:          api.ErrShorter,
		20:          api.OK,
		21:          api.OK,
		top - 1:     api.OK,
		top:         api.OK,
		top + 1:     api.ErrArg,
		math.MaxInt: api.ErrArg,
	} {
		g, e := Extend(f, until)
		wantFile := f
		if want == api.OK {
			wantFile.Until = until
		}
		if e != want || !alike(g, wantFile) {
			t.Errorf("Extend until %d = %v, %d", until, g, e)
		}
		// That it is not sealed is asked first.
		open := api.File{ID: 1, Until: 20}
		if g, e := Extend(open, until); e != api.ErrOpen || !alike(g, open) {
			t.Errorf("Extend of one that is not sealed, until %d = %v, %d", until, g, e)
		}
	}
	beyond := api.File{Sealed: true, Until: top + 5}
	for until, want := range map[int]api.Errno{top: api.ErrShorter, top + 1: api.ErrArg, top + 5: api.ErrArg, top + 6: api.ErrArg} {
		if g, e := Extend(beyond, until); e != want || !alike(g, beyond) {
			t.Errorf("Extend of one beyond all times, until %d = %v, %d", until, g, e)
		}
	}
}

func TestHold(t *testing.T) {
	for _, x := range []struct {
		holds []string
		label string
		want  []string
		err   api.Errno
	}{
		{nil, "x", []string{"x"}, api.OK},
		{[]string{"b", "d"}, "a", []string{"a", "b", "d"}, api.OK},
		{[]string{"b", "d"}, "c", []string{"b", "c", "d"}, api.OK},
		{[]string{"b", "d"}, "e", []string{"b", "d", "e"}, api.OK},
		{[]string{"b", "d", "f"}, "e", []string{"b", "d", "e", "f"}, api.OK},
		{[]string{"b"}, "B", []string{"B", "b"}, api.OK},
		{[]string{"a"}, "ab", []string{"a", "ab"}, api.OK},
		{[]string{"ab"}, "a", []string{"a", "ab"}, api.OK},
		{[]string{"\xff"}, "\U0001f5ff", []string{"\U0001f5ff", "\xff"}, api.OK},
		// By bytes these two would stand the other way round.
		{[]string{"\x80"}, "\u00e9", []string{"\u00e9", "\x80"}, api.OK},
		{[]string{"c", "a"}, "b", []string{"b", "c", "a"}, api.OK},
		{[]string{"a", "d", "b"}, "c", []string{"a", "c", "d", "b"}, api.OK},
		{[]string{"b", "a", "b"}, "c", []string{"b", "a", "b", "c"}, api.OK},
		{[]string{"d", "b", "e"}, "c", []string{"c", "d", "b", "e"}, api.OK},
		{[]string{"c", "a"}, "a", []string{"c", "a"}, api.ErrExists},
		{[]string{"b", "d"}, "b", []string{"b", "d"}, api.ErrExists},
		{[]string{"b", "d"}, "d", []string{"b", "d"}, api.ErrExists},
		{[]string{"a", "b", "c", "d"}, "a", []string{"a", "b", "c", "d"}, api.ErrExists},
		{[]string{"a", "b", "c", "d", "e"}, "e", []string{"a", "b", "c", "d", "e"}, api.ErrExists},
		{[]string{"a", "b", "c", "d"}, "e", []string{"a", "b", "c", "d"}, api.ErrMany},
		{[]string{"a", "b", "c", "d"}, "A", []string{"a", "b", "c", "d"}, api.ErrMany},
		{[]string{"a", "b", "c", "d", "e"}, "f", []string{"a", "b", "c", "d", "e"}, api.ErrMany},
		{[]string{"a"}, "", []string{"a"}, api.ErrName},
		{[]string{""}, "", []string{""}, api.ErrName},
		{[]string{"a/b"}, "a/b", []string{"a/b"}, api.ErrName},
		{[]string{"a", "b", "c", "d"}, " a", []string{"a", "b", "c", "d"}, api.ErrName},
	} {
		f := api.File{ID: 3, Name: "n", Data: "abc", Sealed: true, Until: 5, Holds: x.holds}
		want := f
		want.Holds = x.want
		if g, e := Hold(f, x.label); e != x.err || !alike(g, want) {
			t.Errorf("Hold(%q, %q) = %v, %d", x.holds, x.label, g, e)
		}
		// That it is not sealed is asked first.
		f.Sealed = false
		if g, e := Hold(f, x.label); e != api.ErrOpen || !alike(g, f) {
			t.Errorf("Hold of one that is not sealed, %q, %q = %v, %d", x.holds, x.label, g, e)
		}
	}
}

// TestHoldInAnyOrder puts four holds in every order.
func TestHoldInAnyOrder(t *testing.T) {
	want := []string{"A", "a b", "\u00e9", "\U0001f5ff"}
	var put func(f api.File, left []string)
	put = func(f api.File, left []string) {
		if len(left) == 0 && !slices.Equal(f.Holds, want) {
			t.Errorf("Holds are %q", f.Holds)
		}
		for i, label := range left {
			g, e := Hold(f, label)
			if e != api.OK {
				t.Errorf("Hold(%q, %q) = %d", f.Holds, label, e)
			}
			put(g, slices.Delete(slices.Clone(left), i, i+1))
		}
	}
	put(api.File{ID: 1, Sealed: true}, want)
}

func TestRelease(t *testing.T) {
	for _, x := range []struct {
		holds []string
		label string
		want  []string
		err   api.Errno
	}{
		{nil, "a", nil, api.ErrNone},
		{nil, "", nil, api.ErrNone},
		{[]string{"a"}, "a", nil, api.OK},
		{[]string{"a"}, "A", []string{"a"}, api.ErrNone},
		{[]string{"a"}, "", []string{"a"}, api.ErrNone},
		{[]string{"a"}, "ab", []string{"a"}, api.ErrNone},
		{[]string{"a"}, "a/b", []string{"a"}, api.ErrNone},
		{[]string{"a", "b", "c", "d"}, "a", []string{"b", "c", "d"}, api.OK},
		{[]string{"a", "b", "c", "d"}, "b", []string{"a", "c", "d"}, api.OK},
		{[]string{"a", "b", "c", "d"}, "d", []string{"a", "b", "c"}, api.OK},
		{[]string{"a", "b", "c", "d"}, "e", []string{"a", "b", "c", "d"}, api.ErrNone},
		{[]string{"d", "b", "a"}, "a", []string{"d", "b"}, api.OK},
		{[]string{"a", "b", "a", "c", "a"}, "a", []string{"b", "a", "c", "a"}, api.OK},
		{[]string{"c", "a", "b", "a"}, "a", []string{"c", "b", "a"}, api.OK},
		{[]string{"", "a/b"}, "", []string{"a/b"}, api.OK},
		{[]string{"", "a/b"}, "a/b", []string{""}, api.OK},
		{[]string{"\xff"}, "\xff", nil, api.OK},
		{[]string{"\xff"}, "\ufffd", []string{"\xff"}, api.ErrNone},
	} {
		// Whether it is sealed is not asked.
		for _, sealed := range []bool{true, false} {
			f := api.File{ID: 3, Name: "n", Data: "abc", Sealed: sealed, Until: 5, Holds: x.holds}
			want := f
			want.Holds = x.want
			if g, e := Release(f, x.label); e != x.err || !alike(g, want) {
				t.Errorf("Release(%q, %q) = %v, %d", x.holds, x.label, g, e)
			}
		}
	}
}

func TestChangesOfAll(t *testing.T) {
	for _, f := range files() {
		for _, until := range times() {
			changes(t, "Seal", Seal, sealOf, f, until)
			changes(t, "Extend", Extend, extendOf, f, until)
		}
		for _, label := range labels() {
			changes(t, "Hold", Hold, holdOf, f, label)
			changes(t, "Release", Release, releaseOf, f, label)
		}
	}
}

// TestSmallRows holds and releases each of some labels, of all rows of at most five of them.
func TestSmallRows(t *testing.T) {
	few := []string{"a", "b", "\u00e9", "/"}
	level := [][]string{nil}
	for range 6 {
		var next [][]string
		for _, row := range level {
			f := api.File{Sealed: true, Holds: row}
			for _, label := range few {
				changes(t, "Hold", Hold, holdOf, f, label)
				changes(t, "Release", Release, releaseOf, f, label)
				next = append(next, append(slices.Clone(row), label))
			}
		}
		level = next
	}
}

// TestHoldThenRelease: a hold and then its release leave a file as it was, in whatever order its Holds are.
func TestHoldThenRelease(t *testing.T) {
	held := 0
	for _, f := range files() {
		for _, label := range labels() {
			g, e := Hold(f, label)
			if e != api.OK {
				continue
			}
			held++
			if len(g.Holds) != len(f.Holds)+1 || May(g, math.MaxInt) != api.ErrHeld {
				t.Errorf("Hold(%v, %q) = %v", f, label, g)
			}
			if h, e := Release(g, label); e != api.OK || !alike(h, f) {
				t.Errorf("Hold and Release of %v, %q = %v, %d", f, label, h, e)
			}
			if _, e := Hold(g, label); e != api.ErrExists {
				t.Errorf("Hold of %v, %q, again: %d", f, label, e)
			}
		}
	}
	if held == 0 {
		t.Error("nothing was held")
	}
}

// TestHoldsStayInOrder: in order, each once, at most four, and names, is what Holds stay.
func TestHoldsStayInOrder(t *testing.T) {
	few := []string{"A", "a", "b", "\u00e9", "\U0001f5ff", "/"}
	seen := map[string]api.File{}
	work := []api.File{{ID: 1, Sealed: true, Until: 3}}
	for len(work) > 0 {
		f := work[0]
		work = work[1:]
		key := strings.Join(f.Holds, "/")
		if _, ok := seen[key]; ok {
			continue
		}
		seen[key] = f
		if len(f.Holds) > 4 || !slices.IsSortedFunc(f.Holds, order) {
			t.Errorf("Holds are %q", f.Holds)
		}
		for _, label := range few {
			held, _ := Hold(f, label)
			released, _ := Release(f, label)
			work = append(work, held, released)
		}
	}
	// Of five names at most four: 1 + 5 + 10 + 10 + 5.
	if len(seen) != 31 {
		t.Errorf("%d rows are reached: %q", len(seen), slices.Sorted(maps.Keys(seen)))
	}
}

// order has two of the same in it out of order, so that a row that is sorted by it has each once.
func order(a, b string) int {
	if name.Less(a, b) {
		return -1
	}
	return 1
}

// TestKeptStaysKept: whatever is done to a file that is kept, it is kept till its
// time has come and nobody holds it: only a floor that rises to its Until, or a
// release of its last hold, makes an end of it.
func TestKeptStaysKept(t *testing.T) {
	for _, f := range files() {
		for _, floor := range times() {
			if !Kept(f, floor) {
				continue
			}
			for _, a := range times() {
				stays(t, "Seal", f, floor, by(Seal, f, a))
				stays(t, "Extend", f, floor, by(Extend, f, a))
				next := Floor(floor, a)
				if !Kept(f, next) && (next < f.Until || len(f.Holds) > 0) {
					t.Errorf("%v is kept at %d, and not at %d", f, floor, next)
				}
			}
			for _, label := range []string{"", "a", "b", "c", "e", "a/b", "\xff"} {
				stays(t, "Hold", f, floor, by(Hold, f, label))
				g := by(Release, f, label)
				if !Kept(g, floor) && (floor < f.Until || len(f.Holds) > 1 || !slices.Contains(f.Holds, label)) {
					t.Errorf("%v, released of %q, is not kept at %d", f, label, floor)
				}
			}
		}
	}
}

// by is what a file is behind a call.
func by[A int | string](call change[A], f api.File, arg A) api.File {
	g, _ := call(f, arg)
	return g
}

// stays tells an error where g, which f became, is not kept as f is, for as long, and by all who held it.
func stays(t *testing.T, called string, f api.File, floor int, g api.File) {
	t.Helper()
	if !Kept(g, floor) || !g.Sealed || g.Until < f.Until || g.Data != f.Data {
		t.Errorf("%v is kept at %d, but behind %s it is %v", f, floor, called, g)
	}
	for _, h := range f.Holds {
		if !slices.Contains(g.Holds, h) {
			t.Errorf("%v is held by %q, but behind %s it is %v", f, h, called, g)
		}
	}
}

// FuzzRule asks all calls by a file whose Holds are the lines of a text.
func FuzzRule(f *testing.F) {
	f.Add("a\nc", "b", true, 9, 8, 20)
	f.Add("", "", false, 0, 0, 0)
	f.Add("c\na\nb\nd", "e", true, top, -1, top+1)
	f.Add("a\na", "a", true, -1, math.MaxInt, math.MinInt)
	f.Add("\xff\n\u00e9", "\U0001f5ff", true, 5, 5, 5)
	f.Fuzz(func(t *testing.T, lines, label string, sealed bool, until, floor, at int) {
		g := api.File{ID: until, Name: label, Data: lines, Sealed: sealed, Until: until}
		if lines != "" {
			g.Holds = strings.Split(lines, "\n")
		}
		want := mayOf(g, floor)
		if got := May(g, floor); got != want {
			t.Errorf("May(%v, %d) = %d", g, floor, got)
		}
		if got := Due([]api.File{g, g}, floor); (len(got) == 2) != (want == api.OK) {
			t.Errorf("Due of %v, %d = %v", g, floor, got)
		}
		if got := Floor(floor, at); got < floor || got < 0 {
			t.Errorf("Floor(%d, %d) = %d", floor, at, got)
		}
		changes(t, "Seal", Seal, sealOf, g, at)
		changes(t, "Extend", Extend, extendOf, g, at)
		changes(t, "Hold", Hold, holdOf, g, label)
		changes(t, "Release", Release, releaseOf, g, label)
	})
}
