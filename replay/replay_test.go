package replay

import (
	"crypto/sha256"
	"fmt"
	"math"
	"slices"
	"strconv"
	"strings"
	"testing"

	"cenotaph/api"
	"cenotaph/event"
	"cenotaph/file"
	"cenotaph/model"
	"cenotaph/name"
	"cenotaph/rule"
)

const top = 1 << 40

// edges are IDs, times, lengths and floors: ordinary ones, the edges, and those beyond them.
func edges() []int {
	return []int{math.MinInt, -top, -1, 0, 1, 2, 5, 8, 9, 10, 599, 600, 601, 1 << 32, top - 1, top, top + 1, math.MaxInt}
}

// texts are names and labels.
func texts() []string {
	return []string{"", "a", "b", "c", "open", "due", " ", "a/b", "\xff", "\u00e9", strings.Repeat("\U0001f5ff", 24), strings.Repeat("a", 25)}
}

// sealed is an entry of a file that is sealed.
func sealed(id int, n string, length, until int, holds ...string) Entry {
	return Entry{File: api.File{ID: id, Name: n, Sealed: true, Until: until, Holds: holds}, Len: length, Sum: api.Digest{byte(id), 7}}
}

// open is an entry of a file that is not.
func open(id int, n string, length int) Entry {
	return Entry{File: api.File{ID: id, Name: n}, Len: length}
}

// some are an entry of each sort: not sealed, due, to be kept still, held by some, and by many, full, and nearly so.
func some() []Entry {
	return []Entry{
		open(2, "open", 2),
		sealed(3, "due", 1, 9),
		sealed(5, "later", 3, 10),
		sealed(6, "held", 4, 3, "a", "c"),
		open(7, "full", 600),
		sealed(8, "many", 0, 8, "a", "b", "c", "d"),
		open(9, "nearly", 599),
	}
}

// many are n entries, of IDs from 1 on.
func many(n int) []Entry {
	var l []Entry
	for i := range n {
		l = append(l, open(i+1, "f"+strconv.Itoa(i), i))
	}
	return l
}

// good are books that may be.
func good() []Book {
	return []Book{
		{},
		{Entries: []Entry{}, Last: 3, Floor: 4},
		{Last: top, Floor: top},
		{Entries: some(), Last: 9, Floor: 9},
		{Entries: some(), Last: 20},
		{Entries: some(), Last: top - 1, Floor: top},
		{Entries: some(), Last: top, Floor: 10},
		{Entries: many(11), Last: 11, Floor: 1},
		{Entries: many(12), Last: 12, Floor: 1},
	}
}

// odd are books most of which may not be.
func odd() []Book {
	l := []Book{
		{Entries: many(13), Last: 13},
		{Entries: many(40), Last: 40, Floor: math.MaxInt},
		{Entries: make([]Entry, 3), Last: 5},
		{Entries: append(some(), some()...), Last: 9, Floor: 9},
		{Entries: []Entry{open(4, "b", 1), sealed(4, "a", 2, 0), open(4, "b", 3), open(1, "a", 0)}, Last: 1},
		{Entries: []Entry{sealed(1, "/", 1, 1, "z", "a", "a", "/", ""), {File: api.File{ID: 2, Holds: []string{"c"}, Until: 9}}, sealed(math.MinInt, "", -1, math.MinInt)}, Last: 1},
	}
	for _, n := range edges() {
		f := api.File{ID: 1, Name: "open", Data: "data", Until: n, Holds: []string{"a"}}
		g := api.File{ID: 2, Name: "due", Data: "data", Sealed: true, Until: n}
		l = append(l,
			Book{Entries: some(), Last: n, Floor: 9}, Book{Entries: some(), Last: 9, Floor: n}, Book{Last: n, Floor: n},
			Book{Entries: []Entry{{File: f, Len: n, Sum: api.Digest{3}}, {File: g, Len: n}, open(n, "c", 0)}, Last: 1, Floor: 5})
	}
	return l
}

// kinds are the kinds of events, and some that are none.
func kinds() []api.Kind {
	l := []api.Kind{math.MinInt, -1, api.Sweep, api.Read, api.Stat, api.List, 12, 256, math.MaxInt}
	for k := api.Create; k <= api.Tick; k++ {
		l = append(l, k)
	}
	return l
}

// events are events of all kinds, and some that may not be.
func events() []api.Event {
	var l []api.Event
	for i, e := range anyEvents() {
		if event.Valid(e) || i%50 == 0 {
			l = append(l, e)
		}
	}
	return l
}

// anyEvents are events of all kinds, of which most may not be.
func anyEvents() []api.Event {
	var l []api.Event
	ids := append(edges(), 3, 4, 6, 7, 11, 12, 13, 14, 21)
	for _, k := range kinds() {
		l = append(l, api.Event{Kind: k})
		for _, id := range ids {
			l = append(l, api.Event{Kind: k, ID: id}, api.Event{Kind: k, ID: id, Time: 9, Len: 1})
			for _, s := range texts() {
				l = append(l, api.Event{Kind: k, ID: id, Name: s})
			}
			for _, n := range edges() {
				l = append(l, api.Event{Kind: k, ID: id, Len: n}, api.Event{Kind: k, ID: id, Time: n},
					api.Event{Kind: k, ID: id, Time: 9, Len: n, Sum: api.Digest{5, 6}})
			}
		}
		for _, n := range edges() {
			l = append(l, api.Event{Kind: k, Time: n})
		}
		l = append(l, api.Event{Kind: k, ID: 2, Time: 5, Len: 2}, api.Event{Kind: k, ID: 3, Time: 9, Len: 1}, api.Event{Kind: k, ID: 7, Time: top, Len: 600})
	}
	return l
}

// copied is b with nothing in common with it.
func copied(b Book) Book {
	var l []Entry
	for _, n := range b.Entries {
		n.File.Holds = append([]string{}, n.File.Holds...)
		l = append(l, n)
	}
	b.Entries = l
	return b
}

// alike is Same as the chapter's words say it.
func alike(a, b Book) bool {
	if a.Last != b.Last || a.Floor != b.Floor || len(a.Entries) != len(b.Entries) {
		return false
	}
	for i, n := range a.Entries {
		m := b.Entries[i]
		if !file.Same(n.File, m.File) || n.Len != m.Len || n.Sum != m.Sum {
			return false
		}
	}
	return true
}

// findOf is Find as the chapter's words say it.
func findOf(b Book, id int) int {
	for i := range b.Entries {
		if b.Entries[i].File.ID == id {
			return i
		}
	}
	return -1
}

// createOf is a Create as the chapter's words say it.
func createOf(b Book, e api.Event) (Book, bool) {
	could := b.Last < math.MaxInt && b.Last+1 == e.ID && len(b.Entries) < 12
	for _, n := range b.Entries {
		could = could && n.File.Name != e.Name
	}
	if could {
		b.Entries = append(b.Entries, Entry{File: api.File{ID: e.ID, Name: e.Name}})
		b.Last++
	}
	return b, could
}

// entryOf is what an event of a file comes to, as the chapter's words say it.
func entryOf(b Book, e api.Event) (Book, bool) {
	at := findOf(b, e.ID)
	if at == -1 {
		return b, false
	}
	n, err := b.Entries[at], api.OK
	switch e.Kind {
	case api.Append:
		if n.File.Sealed || n.Len > 600 || n.Len > 0 && n.Len+e.Len > 600 {
			return b, false
		}
		n.Len += e.Len
	case api.Seal:
		if n.File.Sealed || n.Len != e.Len {
			return b, false
		}
		n.File.Sealed, n.File.Until, n.Sum = true, e.Time, e.Sum
	case api.Extend:
		if !n.File.Sealed || e.Time < n.File.Until {
			return b, false
		}
		n.File.Until = e.Time
	case api.Hold:
		n.File, err = rule.Hold(n.File, e.Name)
	case api.Release:
		n.File, err = rule.Release(n.File, e.Name)
	case api.Delete:
		if rule.May(n.File, b.Floor) != api.OK {
			return b, false
		}
		b.Entries = append(b.Entries[:at:at], b.Entries[at+1:]...)
		return b, true
	}
	if err == api.OK {
		b.Entries[at] = n
	}
	return b, err == api.OK
}

// playOf is Play as the chapter's words say it.
func playOf(b Book, e api.Event) (Book, bool) {
	b = copied(b)
	switch {
	case !event.Valid(e):
		return b, false
	case e.Kind == api.Create:
		return createOf(b, e)
	case e.Kind != api.Tick:
		return entryOf(b, e)
	case e.Time <= b.Floor:
		return b, false
	}
	b.Floor = e.Time
	return b, true
}

// bookOf is Of as the chapter's words say it.
func bookOf(s model.State) Book {
	b := Book{Last: s.Last, Floor: s.Floor}
	for _, f := range s.Files {
		n := Entry{File: f, Len: len([]byte(f.Data))}
		n.File.Data = ""
		if f.Sealed {
			n.Sum = sha256.Sum256([]byte(f.Data))
		}
		b.Entries = append(b.Entries, n)
	}
	return copied(b)
}

// roomy is b with lists that have room behind them, in which marks stand that
// nobody may write over; and what looks whether all of it is still as it was.
func roomy(b Book) (Book, func() bool) {
	mark := Entry{File: api.File{ID: 77, Name: "mark"}, Len: 7}
	entries := append(append(make([]Entry, 0, len(b.Entries)+2), copied(b).Entries...), mark, mark)
	b.Entries = entries[:len(b.Entries)]
	for i, n := range b.Entries {
		holds := append(append(make([]string, 0, len(n.File.Holds)+2), n.File.Holds...), "mark", "mark")
		b.Entries[i].File.Holds = holds[:len(n.File.Holds)]
	}
	before := copied(Book{Entries: entries})
	return b, func() bool {
		for _, n := range b.Entries {
			if all := n.File.Holds[:len(n.File.Holds)+2]; all[len(all)-2] != "mark" || all[len(all)-1] != "mark" {
				return false
			}
		}
		return alike(Book{Entries: entries}, before)
	}
}

// spoilBook writes over a book's lists, and the room behind them.
func spoilBook(b Book) {
	for i := range b.Entries {
		spoil(b.Entries[i].File.Holds, "other")
	}
	spoil(b.Entries, Entry{File: api.File{ID: -77, Name: "other"}, Len: -7})
}

// spoil writes over a list, and the room behind it.
func spoil[T any](l []T, other T) {
	l = l[:cap(l)]
	for i := range l {
		l[i] = other
	}
}

// apart tells an error where one list of Holds of b is not as it should be once
// all the others are written over.
func apart(t *testing.T, called string, b Book) {
	t.Helper()
	for i, n := range b.Entries {
		spoil(n.File.Holds, strconv.Itoa(i))
	}
	for i, n := range b.Entries {
		for _, h := range n.File.Holds {
			if h != strconv.Itoa(i) {
				t.Errorf("%s has Holds that are shared", called)
			}
		}
	}
}

// plays tells an error where Play does not answer as the chapter's words say,
// changes what it is handed, or shares something.
func plays(t *testing.T, b Book, e api.Event) {
	t.Helper()
	want, could := playOf(b, e)
	wantErr := api.OK
	if !could {
		want, wantErr = b, api.ErrPlay
	}
	given, untouched := roomy(b)
	got, err := Play(given, e)
	if err != wantErr || !alike(got, want) {
		t.Errorf("Play(%v, %v) = %v, %d, not %v, %d", b, e, got, err, want, wantErr)
	}
	if !untouched() {
		t.Errorf("Play(%v, %v) changed what was handed in: %v", b, e, given)
	}
	apart(t, "Play", got)
	if spoilBook(got); !untouched() {
		t.Errorf("Play(%v, %v) has a book that shares something", b, e)
	}
}

// step is an event on a book, and the book behind it.
type step struct {
	b    Book
	e    api.Event
	want Book
}

// steps tells an error where one does not come to what it should.
func steps(t *testing.T, l []step) {
	t.Helper()
	for _, x := range l {
		if b, err := Play(x.b, x.e); err != api.OK || !alike(b, x.want) {
			t.Errorf("Play(%v, %v) = %v, %d, not %v", x.b, x.e, b, err, x.want)
		}
		plays(t, x.b, x.e)
	}
}

// refused tells an error where an event is played that could not have been, or where that changes a book.
func refused(t *testing.T, b Book, l ...api.Event) {
	t.Helper()
	for _, e := range l {
		if c, err := Play(b, e); err != api.ErrPlay || !alike(c, b) {
			t.Errorf("Play(%v, %v) = %v, %d", b, e, c, err)
		}
		plays(t, b, e)
	}
}

// book is that of some.
func book() Book { return Book{Entries: some(), Last: 9, Floor: 9} }

// with is the book of some, with the entry at that place as it is now.
func with(at int, n Entry) Book {
	b := book()
	b.Entries[at] = n
	return b
}

func TestFind(t *testing.T) {
	b := Book{Entries: []Entry{open(3, "b", 0), open(4, "a", 0), open(9, "c", 3), open(4, "d", 4), open(0, "", 0), open(math.MinInt, "e", 0)}, Last: 7}
	for id, want := range map[int]int{3: 0, 4: 1, 9: 2, 0: 4, math.MinInt: 5, 7: -1, 1: -1, 2: -1, 5: -1, -1: -1, math.MaxInt: -1} {
		if got := Find(b, id); got != want {
			t.Errorf("Find of %d: %d", id, got)
		}
		if got := Find(Book{Last: id, Floor: id}, id); got != -1 {
			t.Errorf("Find of %d among none: %d", id, got)
		}
	}
	for _, b := range append(good(), odd()...) {
		for _, id := range append(edges(), 3, 4, 6, 7) {
			if got := Find(b, id); got != findOf(b, id) {
				t.Errorf("Find(%v, %d) = %d", b, id, got)
			}
		}
	}
}

// TestPlayNone: what is no event could not have been, though all else of it could.
func TestPlayNone(t *testing.T) {
	refused(t, Book{},
		api.Event{Kind: api.Create, ID: 1},
		api.Event{Kind: api.Create, ID: 1, Name: "/"},
		api.Event{Kind: api.Create, ID: 1, Name: "\xff"},
		api.Event{Kind: api.Create, ID: 1, Name: strings.Repeat("a", 25)},
		api.Event{Kind: api.Create, ID: 1, Name: "a", Time: 1},
		api.Event{Kind: api.Create, ID: 1, Name: "a", Len: 1},
		api.Event{Kind: api.Create, ID: 1, Name: "a", Sum: api.Digest{31: 1}},
		api.Event{Kind: api.Tick, Time: top + 1},
		api.Event{Kind: api.Tick, Time: math.MaxInt},
		api.Event{Kind: api.Tick, Time: 1, ID: 1},
		api.Event{Kind: api.Tick, Time: 1, Name: "a"},
		api.Event{Kind: api.Sweep},
		api.Event{Kind: api.List},
		api.Event{Kind: -1},
		api.Event{Kind: 12, ID: 1, Name: "a"},
		api.Event{Kind: math.MinInt},
		api.Event{Kind: math.MaxInt})
	refused(t, book(),
		api.Event{Kind: api.Append, ID: 2},
		api.Event{Kind: api.Append, ID: 2, Len: -1},
		api.Event{Kind: api.Append, ID: 2, Len: math.MinInt},
		api.Event{Kind: api.Append, ID: 2, Len: 1, Name: "a"},
		api.Event{Kind: api.Seal, ID: 2, Time: -1, Len: 2},
		api.Event{Kind: api.Seal, ID: 2, Time: top + 1, Len: 2},
		api.Event{Kind: api.Seal, ID: 2, Time: 5, Len: 2, Name: "a"},
		api.Event{Kind: api.Extend, ID: 5, Time: top + 1},
		api.Event{Kind: api.Extend, ID: 5, Time: 11, Len: 3},
		api.Event{Kind: api.Hold, ID: 3},
		api.Event{Kind: api.Hold, ID: 3, Name: "a/b"},
		api.Event{Kind: api.Hold, ID: 3, Name: "a", Time: 1},
		api.Event{Kind: api.Release, ID: 6, Name: "a", Len: 1},
		api.Event{Kind: api.Delete, ID: 3, Name: "due"},
		api.Event{Kind: api.Delete, ID: 3, Time: 9},
		api.Event{Kind: api.Read, ID: 2},
		api.Event{Kind: api.Stat, ID: 2})
	// Of books that may not be, too, in which the rest could be done.
	for _, id := range []int{math.MinInt, -1, 0, top + 1, math.MaxInt} {
		b := Book{Entries: []Entry{open(id, "a", 601)}, Last: id - 1, Floor: -9}
		refused(t, b,
			api.Event{Kind: api.Create, ID: id, Name: "b"},
			api.Event{Kind: api.Append, ID: id, Len: -600},
			api.Event{Kind: api.Seal, ID: id, Len: 601},
			api.Event{Kind: api.Tick, Time: -1})
		refused(t, Book{Entries: []Entry{sealed(id, "a", 1, -5, "/")}, Last: id, Floor: 9},
			api.Event{Kind: api.Extend, ID: id, Time: 2},
			api.Event{Kind: api.Hold, ID: id, Name: "h"},
			api.Event{Kind: api.Release, ID: id, Name: "/"})
		refused(t, Book{Entries: []Entry{sealed(id, "a", 1, -5)}, Last: id, Floor: 9}, api.Event{Kind: api.Delete, ID: id})
	}
	refused(t, Book{Entries: []Entry{open(1, "a", 601)}, Last: 1}, api.Event{Kind: api.Seal, ID: 1, Len: 601})
	refused(t, Book{Entries: []Entry{open(1, "a", -1)}, Last: 1}, api.Event{Kind: api.Seal, ID: 1, Len: -1})
	refused(t, Book{Entries: []Entry{sealed(1, "a", 1, -5, "/", "")}, Last: 1},
		api.Event{Kind: api.Release, ID: 1, Name: "/"},
		api.Event{Kind: api.Release, ID: 1},
		api.Event{Kind: api.Extend, ID: 1, Time: -1})
}

func TestCreate(t *testing.T) {
	long := strings.Repeat("\U0001f5ff", 24)
	create := func(id int, n string) api.Event { return api.Event{Kind: api.Create, ID: id, Name: n} }
	steps(t, []step{
		{Book{}, create(1, "a"), Book{Entries: []Entry{open(1, "a", 0)}, Last: 1}},
		{Book{Last: 6, Floor: 3}, create(7, long), Book{Entries: []Entry{open(7, long, 0)}, Last: 7, Floor: 3}},
		{book(), create(10, "new"), Book{Entries: append(some(), open(10, "new", 0)), Last: 10, Floor: 9}},
		{Book{Entries: some()[:1], Last: top - 1}, create(top, "b"), Book{Entries: append(some()[:1], open(top, "b", 0)), Last: top}},
		{Book{Entries: many(11), Last: 20}, create(21, "g"), Book{Entries: append(many(11), open(21, "g", 0)), Last: 21}},
		// A label is no name of a file.
		{book(), create(10, "a"), Book{Entries: append(some(), open(10, "a", 0)), Last: 10, Floor: 9}},
		// An ID that an entry has is one more than Last only in a book that may not be.
		{Book{Entries: []Entry{open(4, "b", 1)}, Last: 3}, create(4, "a"), Book{Entries: []Entry{open(4, "b", 1), open(4, "a", 0)}, Last: 4}},
	})
	refused(t, Book{}, create(2, "a"), create(top, "a"))
	refused(t, book(), create(9, "new"), create(8, "new"), create(11, "new"), create(1, "new"), create(4, "new"),
		create(10, "open"), create(10, "due"), create(10, "nearly"), create(11, "open"))
	refused(t, Book{Entries: many(12), Last: 12}, create(13, "g"))
	refused(t, Book{Entries: many(13), Last: 13}, create(14, "g"))
	refused(t, Book{Entries: many(40), Last: 40}, create(41, "g"))
	refused(t, Book{Last: top}, create(top, "a"), create(1, "a"))
	for _, last := range []int{top, top + 1, math.MaxInt, -1, -2, math.MinInt} {
		refused(t, Book{Last: last}, create(1, "a"), create(last+1, "a"), create(0, "a"))
	}
}

// TestNoEntry: what is of a file is of one that has an entry.
func TestNoEntry(t *testing.T) {
	for _, id := range []int{1, 4, 10, 77, top} {
		refused(t, book(),
			api.Event{Kind: api.Append, ID: id, Len: 1},
			api.Event{Kind: api.Seal, ID: id},
			api.Event{Kind: api.Extend, ID: id, Time: 20},
			api.Event{Kind: api.Hold, ID: id, Name: "h"},
			api.Event{Kind: api.Release, ID: id, Name: "a"},
			api.Event{Kind: api.Delete, ID: id})
	}
	for k := api.Append; k <= api.Delete; k++ {
		refused(t, Book{Last: 1}, api.Event{Kind: k, ID: 1}, api.Event{Kind: k, ID: 1, Len: 1}, api.Event{Kind: k, ID: 1, Name: "a"})
	}
}

func TestAppend(t *testing.T) {
	add := func(id, n int) api.Event { return api.Event{Kind: api.Append, ID: id, Len: n} }
	one := func(n int) Book { return Book{Entries: []Entry{open(1, "a", n)}, Last: 1} }
	steps(t, []step{
		{one(0), add(1, 3), one(3)},
		{one(0), add(1, 600), one(600)},
		{book(), add(2, 1), with(0, open(2, "open", 3))},
		{book(), add(2, 598), with(0, open(2, "open", 600))},
		{book(), add(9, 1), with(6, open(9, "nearly", 600))},
		// A length below 0, which no book has that may be.
		{one(-1), add(1, 600), one(599)},
		{one(math.MinInt), add(1, 600), one(math.MinInt + 600)},
	})
	refused(t, book(), add(2, 599), add(2, 600), add(9, 2), add(7, 1), add(7, 600), add(3, 1), add(6, 1), add(8, 600))
	for _, n := range []int{601, top, math.MaxInt - 600, math.MaxInt - 1, math.MaxInt} {
		refused(t, one(n), add(1, 1), add(1, 600))
	}
}

// TestAppendOfEachLength: up to 600 bytes together, and not to one more.
func TestAppendOfEachLength(t *testing.T) {
	for n := range 602 {
		b := Book{Entries: []Entry{open(1, "a", n)}, Last: 1}
		for k := 1; k <= 600; k++ {
			c, err := Play(b, api.Event{Kind: api.Append, ID: 1, Len: k})
			want, wantErr := n, api.ErrPlay
			if n+k <= 600 {
				want, wantErr = n+k, api.OK
			}
			if err != wantErr || c.Entries[0].Len != want {
				t.Fatalf("%d bytes more of %d: %v, %d", k, n, c, err)
			}
		}
	}
}

func TestSeal(t *testing.T) {
	seal := func(id, until, n int) api.Event {
		return api.Event{Kind: api.Seal, ID: id, Time: until, Len: n, Sum: api.Digest{1, 31: 2}}
	}
	became := func(id int, n string, length, until int, holds ...string) Entry {
		return Entry{File: api.File{ID: id, Name: n, Sealed: true, Until: until, Holds: holds}, Len: length, Sum: api.Digest{1, 31: 2}}
	}
	unsealed := Book{Entries: []Entry{{File: api.File{ID: 1, Name: "a", Until: 8, Holds: []string{"b", "a"}}, Len: 4, Sum: api.Digest{9}}}, Last: 1}
	steps(t, []step{
		{book(), seal(2, 5, 2), with(0, became(2, "open", 2, 5))},
		{book(), seal(2, 0, 2), with(0, became(2, "open", 2, 0))},
		{book(), seal(7, top, 600), with(4, became(7, "full", 600, top))},
		{book(), seal(9, 1, 599), with(6, became(9, "nearly", 599, 1))},
		{Book{Entries: []Entry{open(1, "a", 0)}, Last: 1}, api.Event{Kind: api.Seal, ID: 1}, Book{Entries: []Entry{sealedSum(1, "a", api.Digest{})}, Last: 1}},
		// What a book has that may not be, goes by what the Seal tells, or stays.
		{unsealed, seal(1, 3, 4), Book{Entries: []Entry{became(1, "a", 4, 3, "b", "a")}, Last: 1}},
	})
	refused(t, book(), seal(2, 5, 1), seal(2, 5, 3), seal(2, 5, 0), seal(7, 5, 599), seal(9, 5, 600),
		seal(3, 9, 1), seal(3, 20, 1), seal(5, 10, 3), seal(6, 3, 4), seal(8, 8, 0))
}

// sealedSum is an entry of an empty file, sealed until 0, of that sum.
func sealedSum(id int, n string, sum api.Digest) Entry {
	return Entry{File: api.File{ID: id, Name: n, Sealed: true}, Sum: sum}
}

func TestExtend(t *testing.T) {
	extend := func(id, until int) api.Event { return api.Event{Kind: api.Extend, ID: id, Time: until} }
	one := func(until int) Book { return Book{Entries: []Entry{sealed(1, "a", 1, until)}, Last: 1, Floor: 50} }
	steps(t, []step{
		{book(), extend(5, 11), with(2, sealed(5, "later", 3, 11))},
		// To the same Time.
		{book(), extend(5, 10), with(2, sealed(5, "later", 3, 10))},
		{book(), extend(5, top), with(2, sealed(5, "later", 3, top))},
		{book(), extend(6, 4), with(3, sealed(6, "held", 4, 4, "a", "c"))},
		// Below the floor.
		{one(0), extend(1, 0), one(0)},
		{one(0), extend(1, 1), one(1)},
		{one(top), extend(1, top), one(top)},
		{one(-5), extend(1, 0), one(0)},
		{one(math.MinInt), extend(1, 0), one(0)},
	})
	refused(t, book(), extend(5, 9), extend(5, 0), extend(3, 8), extend(6, 2), extend(2, 0), extend(2, 20), extend(7, top))
	refused(t, one(top), extend(1, top-1))
	refused(t, one(top+1), extend(1, top))
	refused(t, one(math.MaxInt), extend(1, top))
}

func TestHold(t *testing.T) {
	hold := func(id int, label string) api.Event { return api.Event{Kind: api.Hold, ID: id, Name: label} }
	three := Book{Entries: []Entry{sealed(1, "a", 1, 2, "b", "c", "d")}, Last: 1}
	four := Book{Entries: []Entry{sealed(1, "a", 1, 2, "a", "b", "c", "d")}, Last: 1}
	five := Book{Entries: []Entry{sealed(1, "a", 1, 2, "a", "b", "c", "d", "f")}, Last: 1}
	steps(t, []step{
		{book(), hold(3, "h"), with(1, sealed(3, "due", 1, 9, "h"))},
		{book(), hold(6, "b"), with(3, sealed(6, "held", 4, 3, "a", "b", "c"))},
		{book(), hold(6, "A"), with(3, sealed(6, "held", 4, 3, "A", "a", "c"))},
		{book(), hold(6, "d"), with(3, sealed(6, "held", 4, 3, "a", "c", "d"))},
		{book(), hold(6, "held"), with(3, sealed(6, "held", 4, 3, "a", "c", "held"))},
		{three, hold(1, "a"), four},
	})
	refused(t, book(), hold(6, "a"), hold(6, "c"), hold(2, "a"), hold(7, "h"), hold(8, "e"), hold(8, "A"), hold(8, "a"))
	refused(t, three, hold(1, "b"), hold(1, "d"))
	refused(t, four, hold(1, "e"))
	refused(t, five, hold(1, "e"), hold(1, "g"))
}

func TestRelease(t *testing.T) {
	release := func(id int, label string) api.Event { return api.Event{Kind: api.Release, ID: id, Name: label} }
	twice := func(holds ...string) Book {
		return Book{Entries: []Entry{{File: api.File{ID: 1, Name: "a", Holds: holds}, Len: 1}}, Last: 1}
	}
	steps(t, []step{
		{book(), release(6, "a"), with(3, sealed(6, "held", 4, 3, "c"))},
		{book(), release(6, "c"), with(3, sealed(6, "held", 4, 3, "a"))},
		{book(), release(8, "b"), with(5, sealed(8, "many", 0, 8, "a", "c", "d"))},
		{Book{Entries: []Entry{sealed(1, "a", 1, 2, "h")}, Last: 1}, release(1, "h"), Book{Entries: []Entry{sealed(1, "a", 1, 2)}, Last: 1}},
		// As rule would do it: only the first one, and of one that is not sealed too.
		{twice("b", "a", "b"), release(1, "b"), twice("a", "b")},
	})
	refused(t, book(), release(6, "b"), release(6, "held"), release(3, "a"), release(2, "a"), release(8, "e"))
}

func TestDelete(t *testing.T) {
	remove := func(id int) api.Event { return api.Event{Kind: api.Delete, ID: id} }
	at := func(floor int, l ...Entry) Book { return Book{Entries: l, Last: 9, Floor: floor} }
	due, held, later := sealed(3, "due", 1, 9), sealed(6, "held", 4, 3, "a"), sealed(5, "later", 3, 10)
	steps(t, []step{
		{book(), remove(3), Book{Entries: slices.Delete(some(), 1, 2), Last: 9, Floor: 9}},
		{Book{Entries: some(), Last: 9, Floor: 10}, remove(5), Book{Entries: slices.Delete(some(), 2, 3), Last: 9, Floor: 10}},
		{at(9, due), remove(3), at(9)},
		{at(9, due, held), remove(3), at(9, held)},
		{at(9, held, due), remove(3), at(9, held)},
		{at(top, held, due, later), remove(3), at(top, held, later)},
		{at(0, sealedSum(9, "n", api.Digest{})), remove(9), at(0)},
		{at(-4, sealed(1, "a", 1, -4)), remove(1), at(-4)},
	})
	refused(t, book(), remove(2), remove(5), remove(6), remove(7), remove(8), remove(9))
	refused(t, at(8, due), remove(3))
	refused(t, at(0, due), remove(3))
	refused(t, at(math.MinInt, due), remove(3))
	refused(t, at(top, held), remove(6))
	refused(t, at(9, due), remove(1), remove(9))
	// An ID that was given is given once.
	b, err := Play(at(9, sealed(9, "a", 1, 0)), remove(9))
	if err != api.OK || b.Last != 9 {
		t.Error(b, err)
	}
	refused(t, b, remove(9), api.Event{Kind: api.Create, ID: 9, Name: "a"})
}

func TestTick(t *testing.T) {
	tick := func(time int) api.Event { return api.Event{Kind: api.Tick, Time: time} }
	at := func(floor int) Book { return Book{Entries: some(), Last: 9, Floor: floor} }
	steps(t, []step{
		{Book{}, tick(1), Book{Floor: 1}},
		{at(9), tick(10), at(10)},
		{at(9), tick(top), at(top)},
		{at(top - 1), tick(top), at(top)},
		{at(-1), tick(0), at(0)},
		{at(math.MinInt), tick(0), at(0)},
		{at(math.MinInt), tick(top), at(top)},
	})
	refused(t, Book{}, tick(0))
	refused(t, at(9), tick(9), tick(8), tick(0))
	refused(t, at(top), tick(top), tick(top-1))
	refused(t, at(top+1), tick(top))
	refused(t, at(math.MaxInt), tick(top), tick(0))
}

// TestPlayOfTheFirst: of those that have an ID, which in a book that may be is one.
func TestPlayOfTheFirst(t *testing.T) {
	opens := func(n ...int) Book {
		b := Book{Entries: []Entry{open(3, "c", 0)}, Last: 9, Floor: 9}
		for i, length := range n {
			b.Entries = append(b.Entries, open(4, string(rune('d'+i)), length))
		}
		return b
	}
	first, second := sealed(4, "a", 1, 5), sealed(4, "b", 2, 6)
	of := func(l ...Entry) Book { return Book{Entries: l, Last: 9, Floor: 9} }
	steps(t, []step{
		{opens(1, 2), api.Event{Kind: api.Append, ID: 4, Len: 5}, opens(6, 2)},
		{of(first, second), api.Event{Kind: api.Extend, ID: 4, Time: 7}, of(sealed(4, "a", 1, 7), second)},
		{of(first, second), api.Event{Kind: api.Hold, ID: 4, Name: "h"}, of(sealed(4, "a", 1, 5, "h"), second)},
		{of(first, second), api.Event{Kind: api.Delete, ID: 4}, of(second)},
	})
	refused(t, opens(1, 2), api.Event{Kind: api.Seal, ID: 4, Len: 2})
	refused(t, of(open(4, "a", 1), second), api.Event{Kind: api.Delete, ID: 4}, api.Event{Kind: api.Extend, ID: 4, Time: 7})
}

// TestPlayOfAll plays all events to all books, most of which may not be.
func TestPlayOfAll(t *testing.T) {
	played := map[api.Kind]int{}
	l := events()
	for _, b := range append(good(), odd()...) {
		for _, e := range l {
			plays(t, b, e)
			if _, could := playOf(b, e); could {
				played[e.Kind]++
			}
		}
	}
	for k := api.Create; k <= api.Tick; k++ {
		if played[k] < 10 {
			t.Errorf("of kind %d only %d were played", k, played[k])
		}
	}
}

// told are events that could have been, one by one, of all kinds.
func told() []api.Event {
	return []api.Event{
		{Kind: api.Create, ID: 1, Name: "a"},
		{Kind: api.Append, ID: 1, Len: 3},
		{Kind: api.Create, ID: 2, Name: "b"},
		{Kind: api.Tick, Time: 4},
		{Kind: api.Seal, ID: 1, Time: 5, Len: 3, Sum: api.Digest{8}},
		{Kind: api.Hold, ID: 1, Name: "y"},
		{Kind: api.Hold, ID: 1, Name: "x"},
		{Kind: api.Extend, ID: 1, Time: 6},
		{Kind: api.Tick, Time: 6},
		{Kind: api.Release, ID: 1, Name: "y"},
		{Kind: api.Release, ID: 1, Name: "x"},
		{Kind: api.Seal, ID: 2, Time: 9},
		{Kind: api.Delete, ID: 1},
		{Kind: api.Create, ID: 3, Name: "a"},
	}
}

func TestExample(t *testing.T) {
	b, err, at := All(told()[:2])
	if err != api.OK || at != 0 || !alike(b, Book{Entries: []Entry{open(1, "a", 3)}, Last: 1}) {
		t.Error(b, err, at)
	}
}

// allOf is All as the chapter's words say it.
func allOf(l []api.Event) (Book, api.Errno, int) {
	var b Book
	for i, e := range l {
		c, could := playOf(b, e)
		if !could {
			return b, 13, i
		}
		b = c
	}
	return b, 0, 0
}

// alls tells an error where All does not answer as the chapter's words say, or changes what it is handed.
func alls(t *testing.T, l []api.Event) {
	t.Helper()
	want, wantErr, wantAt := allOf(l)
	before := slices.Clone(l)
	b, err, at := All(l)
	if err != wantErr || at != wantAt || !alike(b, want) {
		t.Errorf("All(%v) = %v, %d, %d, not %v, %d, %d", l, b, err, at, want, wantErr, wantAt)
	}
	apart(t, "All", b)
	if spoilBook(b); !slices.Equal(l, before) {
		t.Errorf("All(%v) changed what was handed in: %v", before, l)
	}
}

func TestAll(t *testing.T) {
	l := told()
	b, err, at := All(l)
	want := Book{Entries: []Entry{sealedSum(2, "b", api.Digest{}), open(3, "a", 0)}, Last: 3, Floor: 6}
	want.Entries[0].File.Until = 9
	if err != api.OK || at != 0 || !alike(b, want) {
		t.Error(b, err, at)
	}
	for _, none := range [][]api.Event{nil, {}} {
		if b, err, at := All(none); err != api.OK || at != 0 || !alike(b, Book{}) {
			t.Error(b, err, at)
		}
	}
	// Two events that could not have been: the first of them is told, and what is behind it counts for nothing.
	wrong := []api.Event{{Kind: api.Tick}, {Kind: 99, ID: -1}}
	for i := range len(l) + 1 {
		ahead, err, at := All(l[:i])
		if err != api.OK || at != 0 {
			t.Error(i, err, at)
		}
		b, err, at := All(slices.Concat(l[:i], wrong, l[i:]))
		if err != api.ErrPlay || at != i || !alike(b, ahead) {
			t.Error(i, b, err, at)
		}
		alls(t, l[:i])
		alls(t, slices.Concat(l[:i], wrong[1:], l[i:]))
	}
}

// TestAllButOne leaves one event out, does it twice, or does two the other way round.
func TestAllButOne(t *testing.T) {
	l := told()
	for i := range l {
		alls(t, slices.Delete(slices.Clone(l), i, i+1))
		alls(t, slices.Insert(slices.Clone(l), i, l[i]))
		for k := range l {
			m := slices.Clone(l)
			m[i], m[k] = m[k], m[i]
			alls(t, m)
		}
	}
	for _, e := range events() {
		alls(t, []api.Event{e})
		alls(t, append(told(), e, e))
	}
}

// TestAllOfMany: more events than a log has.
func TestAllOfMany(t *testing.T) {
	var l []api.Event
	for id := 1; id <= 2000; id++ {
		l = append(l, api.Event{Kind: api.Create, ID: id, Name: "n"}, api.Event{Kind: api.Seal, ID: id}, api.Event{Kind: api.Delete, ID: id})
	}
	b, err, at := All(l)
	if err != api.OK || at != 0 || !alike(b, Book{Last: 2000}) {
		t.Error(b, err, at)
	}
	b, err, at = All(append(l, l[0]))
	if err != api.ErrPlay || at != 6000 || !alike(b, Book{Last: 2000}) {
		t.Error(b, err, at)
	}
}

// states are states, of which many may not be.
func states() []model.State {
	l := []model.State{
		{},
		{Files: []api.File{}, Last: 3, Floor: 4},
		{Files: []api.File{
			{ID: 2, Name: "open", Data: "ab"},
			{ID: 3, Name: "due", Data: "\u00e9", Sealed: true, Until: 9},
			{ID: 6, Name: "held", Data: "h", Sealed: true, Until: 3, Holds: []string{"a", "c"}},
			{ID: 7, Name: "full", Data: strings.Repeat("x", 600)},
			{ID: 9, Name: "also", Sealed: true},
			{ID: 10, Name: "empty"},
		}, Last: 20, Floor: 8},
		{Files: make([]api.File, 20), Last: 5},
		{Files: []api.File{{ID: 1, Name: "/", Data: strings.Repeat("y", 5000), Sealed: true, Until: -1, Holds: []string{"z", "", "z"}}, {ID: 1, Name: "/", Holds: []string{"q"}, Until: math.MaxInt}}, Last: 1},
	}
	for _, n := range edges() {
		l = append(l, model.State{Last: n, Floor: 1}, model.State{Last: 1, Floor: n}, model.State{Files: []api.File{{ID: n, Name: "a", Data: "z", Until: n}}})
	}
	return l
}

func TestOf(t *testing.T) {
	b := Of(states()[2])
	want := Book{Entries: []Entry{
		open(2, "open", 2),
		sealed(3, "due", 2, 9),
		sealed(6, "held", 1, 3, "a", "c"),
		open(7, "full", 600),
		sealedSum(9, "also", sha256.Sum256(nil)),
		open(10, "empty", 0),
	}, Last: 20, Floor: 8}
	want.Entries[1].Sum = sha256.Sum256([]byte("\u00e9"))
	want.Entries[2].Sum = sha256.Sum256([]byte("h"))
	if !alike(b, want) {
		t.Error(b, want)
	}
	for _, n := range b.Entries {
		if n.File.Data != "" {
			t.Errorf("%v has its Data", n)
		}
	}
	if !alike(Of(model.State{}), Book{}) {
		t.Error("a zero state has no zero book")
	}
}

func TestOfAll(t *testing.T) {
	for _, s := range states() {
		var whole [][]string
		given := model.State{Files: slices.Clone(s.Files), Last: s.Last, Floor: s.Floor}
		for i, f := range given.Files {
			holds := append(append(make([]string, 0, len(f.Holds)+1), f.Holds...), "mark")
			whole = append(whole, holds)
			given.Files[i].Holds = holds[:len(f.Holds)]
		}
		b := Of(given)
		if !alike(b, bookOf(s)) || !model.Same(given, s) {
			t.Errorf("Of(%v) = %v", s, b)
		}
		apart(t, "Of", b)
		spoilBook(b)
		for _, holds := range whole {
			if holds[len(holds)-1] != "mark" {
				t.Errorf("Of(%v) has a book that shares something", s)
			}
		}
		if !model.Same(given, s) {
			t.Errorf("Of(%v) has a book that shares something", s)
		}
	}
}

func TestSame(t *testing.T) {
	for what, to := range map[string]func(b *Book){
		"Last":                       func(b *Book) { b.Last++ },
		"Floor":                      func(b *Book) { b.Floor-- },
		"Last and Floor":             func(b *Book) { b.Last, b.Floor = b.Floor, b.Last },
		"no entries":                 func(b *Book) { b.Entries = nil },
		"fewer entries":              func(b *Book) { b.Entries = b.Entries[:6] },
		"fewer entries ahead":        func(b *Book) { b.Entries = b.Entries[1:] },
		"more entries":               func(b *Book) { b.Entries = append(b.Entries, Entry{}) },
		"entries in another order":   func(b *Book) { b.Entries[0], b.Entries[1] = b.Entries[1], b.Entries[0] },
		"the first ID":               func(b *Book) { b.Entries[0].File.ID = 1 },
		"the last ID":                func(b *Book) { b.Entries[6].File.ID = 10 },
		"the first Name":             func(b *Book) { b.Entries[0].File.Name = "opem" },
		"the last Name":              func(b *Book) { b.Entries[6].File.Name = "" },
		"Data":                       func(b *Book) { b.Entries[1].File.Data = "x" },
		"Sealed":                     func(b *Book) { b.Entries[0].File.Sealed = true },
		"not Sealed":                 func(b *Book) { b.Entries[5].File.Sealed = false },
		"Until":                      func(b *Book) { b.Entries[2].File.Until++ },
		"a hold":                     func(b *Book) { b.Entries[3].File.Holds[1] = "d" },
		"a hold less":                func(b *Book) { b.Entries[5].File.Holds = b.Entries[5].File.Holds[:3] },
		"Holds none":                 func(b *Book) { b.Entries[3].File.Holds = nil },
		"the first Len":              func(b *Book) { b.Entries[0].Len++ },
		"the last Len":               func(b *Book) { b.Entries[6].Len = 0 },
		"the first byte of a Sum":    func(b *Book) { b.Entries[1].Sum[0]++ },
		"the last byte of a Sum":     func(b *Book) { b.Entries[1].Sum[31]++ },
		"a Sum zero":                 func(b *Book) { b.Entries[5].Sum = api.Digest{} },
		"a Sum of what isn't sealed": func(b *Book) { b.Entries[6].Sum[1] = 1 },
	} {
		b := Book{Entries: some(), Last: 9, Floor: 8}
		c := copied(b)
		if !Same(b, c) || !Same(b, b) {
			t.Fatal("one is not as itself")
		}
		if to(&c); Same(b, c) || Same(c, b) || !Same(c, copied(c)) {
			t.Errorf("%s: %v and %v", what, b, c)
		}
	}
	empty := Book{Entries: []Entry{}}
	if !Same(empty, Book{}) || !Same(Book{}, empty) || !Same(Book{}, Book{}) {
		t.Error("Entries without things are not alike")
	}
	if a, b := (Book{Entries: []Entry{{}}}), (Book{Entries: []Entry{{File: api.File{Holds: []string{}}}}}); !Same(a, b) || !Same(b, a) || Same(a, empty) || Same(empty, b) {
		t.Error("Holds without things are not alike")
	}
	l := append(good(), odd()...)
	for _, a := range l {
		for _, b := range l {
			if got := Same(a, copied(b)); got != alike(a, b) {
				t.Errorf("Same(%v, %v) = %v", a, b, got)
			}
		}
	}
}

// TestLeaves: what is only asked changes nothing.
func TestLeaves(t *testing.T) {
	for _, b := range append(good(), odd()...) {
		x, left := roomy(b)
		y, right := roomy(b)
		Find(x, 4)
		if !Same(x, y) || !left() || !right() || !alike(x, b) {
			t.Errorf("%v became %v and %v", b, x, y)
		}
	}
}

// few are operations by which a state comes to be all that it may, in small.
func few() []api.Op {
	l := []api.Op{{Kind: api.Sweep}, {Kind: api.List}, {Kind: -1}}
	for _, at := range []int{-1, 3, 5, top + 1} {
		l = append(l, api.Op{Kind: api.Tick, Time: at})
	}
	for _, n := range []string{"a", "b", "/"} {
		l = append(l, api.Op{Kind: api.Create, Name: n}, api.Op{Kind: api.Delete, Name: n},
			api.Op{Kind: api.Append, Name: n, Text: strings.Repeat("x", 400)}, api.Op{Kind: api.Append, Name: n, Text: strings.Repeat("y", 300)},
			api.Op{Kind: api.Seal, Name: n, Time: 4}, api.Op{Kind: api.Seal, Name: n, Time: top + 1},
			api.Op{Kind: api.Extend, Name: n, Time: 4}, api.Op{Kind: api.Extend, Name: n, Time: 6},
			api.Op{Kind: api.Hold, Name: n, Text: "h"}, api.Op{Kind: api.Release, Name: n, Text: "h"},
			api.Op{Kind: api.Read, Name: n, B: 1}, api.Op{Kind: api.Stat, Name: n})
	}
	return l
}

// small are events that may come to be where operations are few, and some that can't.
func small() []api.Event {
	l := []api.Event{{Kind: api.Sweep}, {Kind: -1}, {Kind: api.Tick, ID: 1, Time: 9}}
	for _, at := range []int{-1, 0, 2, 3, 4, 5, 6, top, top + 1} {
		l = append(l, api.Event{Kind: api.Tick, Time: at})
	}
	for id := range 6 {
		l = append(l, api.Event{Kind: api.Delete, ID: id}, api.Event{Kind: api.Create, ID: id, Name: "a"}, api.Event{Kind: api.Create, ID: id, Name: "b"}, api.Event{Kind: api.Create, ID: id, Name: "/"},
			api.Event{Kind: api.Hold, ID: id, Name: "h"}, api.Event{Kind: api.Hold, ID: id, Name: "a"}, api.Event{Kind: api.Release, ID: id, Name: "h"}, api.Event{Kind: api.Release, ID: id, Name: "a"})
		for _, n := range []int{0, 1, 200, 201, 300, 301, 400, 600, 601} {
			l = append(l, api.Event{Kind: api.Append, ID: id, Len: n}, api.Event{Kind: api.Seal, ID: id, Time: 4, Len: n})
		}
		for _, at := range []int{0, 3, 4, 5, 6, 7, top, top + 1} {
			l = append(l, api.Event{Kind: api.Extend, ID: id, Time: at}, api.Event{Kind: api.Seal, ID: id, Time: at})
		}
	}
	return l
}

// teller is the operation that would tell e of s, and e with the sum that it would
// tell; false if there is none.
func teller(s model.State, e api.Event) (api.Op, api.Event, bool) {
	o := api.Op{Kind: e.Kind, Name: e.Name, Text: e.Name, Time: e.Time}
	at := slices.IndexFunc(s.Files, func(f api.File) bool { return f.ID == e.ID })
	switch {
	case e.Kind < api.Create || e.Kind > api.Tick:
		return o, e, false
	case e.Kind == api.Create || e.Kind == api.Tick:
		return o, e, true
	case at < 0 || e.Kind == api.Append && (e.Len < 0 || e.Len > 9999):
		return o, e, false
	}
	o.Name = s.Files[at].Name
	if e.Kind == api.Append {
		o.Text = strings.Repeat("z", e.Len)
	}
	if e.Kind == api.Seal {
		e.Sum = sha256.Sum256([]byte(s.Files[at].Data))
	}
	return o, e, true
}

// tells tells an error where an event is played, on the book of a state, though the
// model could not tell it, or the other way round, or what is behind it is not the
// book of the state behind it.
func tells(t *testing.T, s model.State, b Book, e api.Event) bool {
	t.Helper()
	want := b
	o, e, ok := teller(s, e)
	if ok {
		next, _, l := model.Do(s, o)
		if ok = len(l) == 1 && l[0] == e; ok {
			want = bookOf(next)
		}
	}
	c, err := Play(b, e)
	if ok != (err == api.OK) || !ok && err != api.ErrPlay || !alike(c, want) {
		t.Errorf("Play of %v, of %v: %v, %d, not %v", s, e, c, err, want)
	}
	return ok
}

// follows tells an error where what an operation tells does not bring the book of
// a state to that of the state behind it.
func follows(t *testing.T, s model.State, b Book, o api.Op) (model.State, []api.Event) {
	t.Helper()
	next, _, l := model.Do(s, o)
	for _, e := range l {
		c, err := Play(b, e)
		if err != api.OK {
			t.Errorf("Play(%v, %v) = %v, %d", b, e, c, err)
		}
		b = c
	}
	if want := bookOf(next); !Same(b, want) || !alike(b, want) || len(l) > 0 && !alike(b, Of(next)) {
		t.Errorf("%v tell %v of %v, not %v", l, b, s, want)
	}
	return next, l
}

// TestModel goes to all states that come to be from a zero one, of at most 2 IDs:
// what the model tells, played, is the book of the state; and what it could not
// tell is none that can be played.
func TestModel(t *testing.T) {
	seen := map[string]int{}
	could, couldNot := 0, 0
	events, ops := small(), few()
	for work := []model.State{{}}; len(work) > 0; work = work[1:] {
		s := work[0]
		key := fmt.Sprintln(s)
		if seen[key]++; seen[key] > 1 {
			continue
		}
		b := Of(s)
		for _, e := range events {
			if tells(t, s, b, e) {
				could++
			} else {
				couldNot++
			}
		}
		for _, o := range ops {
			next, _ := follows(t, s, b, o)
			if next.Last <= 2 {
				work = append(work, next)
			}
		}
	}
	if len(seen) < 1000 || could < 5000 || couldNot < 5000 {
		t.Errorf("%d states, %d events, and %d that could not have been", len(seen), could, couldNot)
	}
}

// mixed are n numbers below most, picked by a seed.
func mixed(n, most, seed int) []int {
	var l []int
	for range n {
		seed = (seed*1103515245 + 12345) % (1 << 31)
		l = append(l, (seed>>8)%most)
	}
	return l
}

// wide are operations on more files than there may be at a time.
func wide() []api.Op {
	l := []api.Op{{Kind: api.Sweep}, {Kind: api.Tick, Time: 3}, {Kind: api.Tick, Time: 5}, {Kind: api.Tick, Time: 8}}
	for i := range 15 {
		n := "f" + strconv.Itoa(i)
		l = append(l, api.Op{Kind: api.Create, Name: n}, api.Op{Kind: api.Create, Name: n}, api.Op{Kind: api.Delete, Name: n},
			api.Op{Kind: api.Append, Name: n, Text: strings.Repeat("x", i*i+1)},
			api.Op{Kind: api.Seal, Name: n, Time: i}, api.Op{Kind: api.Extend, Name: n, Time: i + 1})
		for k := range 6 {
			l = append(l, api.Op{Kind: api.Hold, Name: n, Text: "h" + strconv.Itoa(k)}, api.Op{Kind: api.Release, Name: n, Text: "h" + strconv.Itoa(k)})
		}
	}
	return l
}

// TestModelFromTheStart: all that was told, from a zero state on, is the book of the state at each step.
func TestModelFromTheStart(t *testing.T) {
	ops := wide()
	most := 0
	for seed := range 20 {
		s := model.State{}
		var l []api.Event
		for _, i := range mixed(600, len(ops), seed) {
			next, v := follows(t, s, Of(s), ops[i])
			s, l = next, append(l, v...)
			if b, err, at := All(l); err != api.OK || at != 0 || !Same(b, Of(s)) || !alike(b, bookOf(s)) {
				t.Fatalf("All(%v) = %v, %d, %d, of %v", l, b, err, at, s)
			}
			most = max(most, len(s.Files))
		}
	}
	if most != 12 {
		t.Errorf("at most %d files", most)
	}
}

// FuzzReplay plays an event to a book with an entry of each sort, and one of a
// text's Holds; and events that follow from bytes, from the start on.
func FuzzReplay(f *testing.F) {
	f.Add(0, 10, "n", 0, 0, []byte(nil), "", "\x00\x01\x02\x03", 9, 9, true, 9, 3, 4)
	f.Add(1, 4, "", 0, 600, []byte(nil), "a\nc", "\x00\x09\x12\x1b", 9, 9, false, 0, math.MaxInt, 4)
	f.Add(2, 4, "", 5, 3, []byte{1, 2}, "/", "\xff\x00\x01", math.MinInt, -1, false, 7, 3, 4)
	f.Add(3, 4, "", top, 0, []byte(nil), "b\na\nb", "\x07\x00", top, top, true, top, 0, 4)
	f.Add(4, 4, "e", 0, 0, []byte(nil), "a\nb\nc\nd", "", 9, 9, true, 5, 0, 4)
	f.Add(5, 4, "a/b", 0, 0, []byte(nil), "a/b", "", 9, 9, true, 5, 0, 4)
	f.Add(6, 4, "", 0, 0, []byte(nil), "", "\x00\x08\x10\x20\x40\x80", 9, -9, true, -9, 0, 4)
	f.Add(7, 0, "", 1, 0, []byte(nil), "", "", 0, 0, true, 0, 0, 0)
	f.Fuzz(func(t *testing.T, k, id int, text string, time, length int, d []byte, lines, bytes string, last, floor int, isSealed bool, until, n, own int) {
		e := api.Event{Kind: api.Kind(k), ID: id, Name: text, Time: time, Len: length}
		copy(e.Sum[:], d)
		g := Entry{File: api.File{ID: own, Name: text, Data: lines, Sealed: isSealed, Until: until}, Len: n}
		if lines != "" {
			g.File.Holds = strings.Split(lines, "\n")
		}
		b := Book{Entries: append(some(), g), Last: last, Floor: floor}
		plays(t, b, e)
		plays(t, Book{}, e)
		if Find(b, id) != findOf(b, id) || !Same(b, copied(b)) {
			t.Errorf("Find(%v, %d) = %d", b, id, Find(b, id))
		}
		l, ops := []api.Event{}, wide()
		s := model.State{}
		for i, x := range []byte(bytes[:min(len(bytes), 60)]) {
			next, v := follows(t, s, Of(s), ops[(int(x)*7+i)%len(ops)])
			s, l = next, append(l, v...)
		}
		tells(t, s, Of(s), e)
		alls(t, l)
		alls(t, append(l, e))
		if name.Valid(text) && event.Valid(e) {
			alls(t, append([]api.Event{{Kind: api.Create, ID: 1, Name: text}}, e))
		}
	})
}
