package model

import (
	"crypto/sha256"
	"fmt"
	"math"
	"slices"
	"strconv"
	"strings"
	"testing"

	"cenotaph/api"
	"cenotaph/event"
	"cenotaph/file"
	"cenotaph/name"
	"cenotaph/rule"
)

const top = 1 << 40

// edges are IDs, times and floors: ordinary ones, the edges, and those beyond them.
func edges() []int {
	return []int{math.MinInt, -top, -1, 0, 1, 8, 9, 10, 1 << 31, 1 << 32, top - 1, top, top + 1, math.MaxInt}
}

// texts are names, labels and what is appended.
func texts() []string {
	return []string{
		"", "a", "b", "c", "x", " ", "a ", "a/b", "\n", "\xff", "\ufffd", "\u00e9", "\U0001f5ff",
		strings.Repeat("a", 24), strings.Repeat("a", 25), strings.Repeat("x", 598), strings.Repeat("x", 599), strings.Repeat("x", 601),
	}
}

// many are n files that are not sealed, of IDs from 1 on, and of names in no order.
func many(n int) []api.File {
	var l []api.File
	for i := range n {
		l = append(l, api.File{ID: i + 1, Name: "f" + strconv.Itoa(i*7%13)})
	}
	return l
}

// some are a file of each sort: not sealed, to be kept still, held, two that are due, and full.
func some() []api.File {
	return []api.File{
		{ID: 2, Name: "open", Data: "ab"},
		{ID: 3, Name: "due", Data: "\u00e9", Sealed: true, Until: 9},
		{ID: 5, Name: "later", Data: "xyz", Sealed: true, Until: 10},
		{ID: 6, Name: "held", Data: "h", Sealed: true, Until: 3, Holds: []string{"a", "c"}},
		{ID: 7, Name: "full", Data: strings.Repeat("x", 600)},
		{ID: 9, Name: "also", Sealed: true},
	}
}

// good are states that may be.
func good() []State {
	return []State{
		{},
		{Files: []api.File{}, Last: 3, Floor: 4},
		{Last: top, Floor: top},
		{Files: some(), Last: 9, Floor: 9},
		{Files: some(), Last: 20, Floor: 0},
		{Files: some(), Last: top - 1, Floor: top},
		{Files: some(), Last: top, Floor: 10},
		{Files: many(11), Last: 11, Floor: 1},
		{Files: many(12), Last: 12, Floor: 1},
		{Files: []api.File{{ID: top, Name: "open", Data: strings.Repeat("x", 600)}}, Last: top, Floor: 3},
	}
}

// odd are states most of which may not be.
func odd() []State {
	l := []State{
		{Files: many(13), Last: 13},
		{Files: many(40), Last: 13, Floor: math.MaxInt},
		{Files: make([]api.File, 3), Last: 5},
		{Files: make([]api.File, 13), Last: 99},
		{Files: append(some(), some()...), Last: 9, Floor: 9},
		{Files: []api.File{{ID: 4, Name: "open", Sealed: true, Until: 99}, {ID: 4, Name: "due", Sealed: true}, {ID: 4, Name: "later"}}, Last: 4, Floor: 9},
		{Files: []api.File{{ID: -1, Name: "\xff", Holds: []string{"z", "a", "a", "/", ""}}, {ID: math.MinInt, Name: "", Sealed: true, Until: math.MinInt}}, Floor: 1},
		{Files: []api.File{{ID: 1, Name: "open", Data: strings.Repeat("x", 900), Until: -3}, {Name: "open"}}, Last: -7, Floor: math.MinInt},
	}
	for _, n := range edges() {
		l = append(l, State{Files: some(), Last: n, Floor: 9}, State{Files: some(), Last: 9, Floor: n}, State{Last: n, Floor: n})
	}
	return l
}

// kinds are the kinds of operations, and some that are none.
func kinds() []api.Kind {
	l := []api.Kind{math.MinInt, -2, -1, 12, 13, 256, math.MaxInt}
	for k := api.Create; k <= api.List; k++ {
		l = append(l, k)
	}
	return l
}

// ops are operations of all kinds, on files that there are and that there are not.
func ops() []api.Op {
	var l []api.Op
	for _, k := range kinds() {
		for i, s := range texts() {
			l = append(l, api.Op{Kind: k, Name: s, Text: "x", Time: i})
		}
		for _, n := range append([]string{"new"}, names(some())...) {
			for i, s := range texts() {
				l = append(l, api.Op{Kind: k, Name: n, Text: s, Time: edges()[i%len(edges())], A: i - 2, B: 4 - i})
			}
			for _, at := range edges() {
				l = append(l, api.Op{Kind: k, Name: n, Text: "a", Time: at, B: 1}, api.Op{Kind: k, Name: n, Text: "b", B: at})
			}
		}
	}
	return l
}

// names are those of files, as they stand.
func names(l []api.File) []string {
	var n []string
	for _, f := range l {
		n = append(n, f.Name)
	}
	return n
}

// copied is s with nothing in common with it.
func copied(s State) State {
	var l []api.File
	for _, f := range s.Files {
		f.Holds = append([]string{}, f.Holds...)
		l = append(l, f)
	}
	s.Files = l
	return s
}

// alike is Same as the chapter's words say it.
func alike(a, b State) bool {
	if len(a.Files) != len(b.Files) {
		return false
	}
	for i := range a.Files {
		if !file.Same(a.Files[i], b.Files[i]) {
			return false
		}
	}
	return a.Last == b.Last && a.Floor == b.Floor
}

// answersAlike tells whether two answers are so, part by part.
func answersAlike(a, b api.Answer) bool {
	return a.Err == b.Err && a.N == b.N && a.Text == b.Text && file.Same(a.File, b.File) && slices.Equal(a.Names, b.Names)
}

// mayBe is Valid as the chapter's words say it.
func mayBe(s State) bool {
	ok := len(s.Files) < 13
	ok = ok && s.Last > -1 && s.Last <= 1<<40
	ok = ok && s.Floor > -1 && s.Floor <= 1<<40
	for i, f := range s.Files {
		ok = ok && file.Valid(f) && f.ID <= s.Last
		for _, g := range s.Files[:i] {
			ok = ok && g.ID < f.ID && g.Name != f.Name
		}
	}
	return ok
}

// findOf is Find as the chapter's words say it.
func findOf(s State, n string) int {
	for i := range s.Files {
		if s.Files[i].Name == n {
			return i
		}
	}
	return -1
}

// createOf is a Create as the chapter's words say it.
func createOf(s State, n string) (State, api.Answer, []api.Event) {
	if !name.Valid(n) {
		return s, api.Answer{Err: api.ErrName}, nil
	}
	if findOf(s, n) != -1 {
		return s, api.Answer{Err: api.ErrExists}, nil
	}
	if len(s.Files) > 11 || s.Last > 1<<40-1 {
		return s, api.Answer{Err: api.ErrMany}, nil
	}
	f, e := file.New(s.Last+1, n)
	if e != api.OK {
		return s, api.Answer{Err: e}, nil
	}
	s.Files = append(s.Files, f)
	s.Last++
	return s, api.Answer{N: s.Last}, []api.Event{{Kind: 0, ID: s.Last, Name: n}}
}

// sweepOf is a Sweep as the chapter's words say it.
func sweepOf(s State) (State, api.Answer, []api.Event) {
	var stay []api.File
	var a api.Answer
	var l []api.Event
	for _, f := range s.Files {
		if rule.May(f, s.Floor) != api.OK {
			stay = append(stay, f)
			continue
		}
		a.N++
		l = append(l, api.Event{Kind: 6, ID: f.ID})
	}
	s.Files = stay
	return s, a, l
}

// fileOf is what operations on one file are, as the chapter's words say it.
func fileOf(s State, o api.Op) (State, api.Answer, []api.Event) {
	at := findOf(s, o.Name)
	if at == -1 {
		return s, api.Answer{Err: api.ErrNone}, nil
	}
	f := s.Files[at]
	if o.Kind == api.Stat {
		return s, api.Answer{File: file.Meta(f)}, nil
	}
	if o.Kind == api.Read {
		text, e := file.Read(f, o.A, o.B)
		return s, api.Answer{Err: e, Text: text}, nil
	}
	g, v, e := file.Do(f, o, s.Floor)
	if e != api.OK {
		return s, api.Answer{Err: e}, nil
	}
	if o.Kind == api.Delete {
		s.Files = append(append([]api.File{}, s.Files[:at]...), s.Files[at+1:]...)
		return s, api.Answer{N: f.ID}, []api.Event{v}
	}
	s.Files[at] = g
	return s, api.Answer{N: len(g.Data)}, []api.Event{v}
}

// doOf is Do as the chapter's words say it.
func doOf(s State, o api.Op) (State, api.Answer, []api.Event) {
	s = copied(s)
	switch o.Kind {
	case 0:
		return createOf(s, o.Name)
	case 1, 2, 3, 4, 5, 6, 9, 10:
		return fileOf(s, o)
	case 7:
		was := s.Floor
		s.Floor = rule.Floor(was, o.Time)
		if s.Floor == was {
			return s, api.Answer{N: was}, nil
		}
		return s, api.Answer{N: s.Floor}, []api.Event{{Kind: 7, Time: s.Floor}}
	case 8:
		return sweepOf(s)
	case 11:
		l := names(s.Files)
		for i := range l {
			for k := i; k > 0 && name.Less(l[k], l[k-1]); k-- {
				l[k], l[k-1] = l[k-1], l[k]
			}
		}
		return s, api.Answer{Names: l}, nil
	}
	return s, api.Answer{Err: api.ErrArg}, nil
}

// roomy is s with lists that have room behind them, in which marks stand that
// nobody may write over; and what looks whether all of it is still as it was.
func roomy(s State) (State, func() bool) {
	mark := api.File{ID: 77, Name: "mark", Holds: []string{"mark"}}
	whole := append(append(make([]api.File, 0, len(s.Files)+2), copied(s).Files...), mark, mark)
	s.Files = whole[:len(s.Files)]
	for i, f := range s.Files {
		holds := append(append(make([]string, 0, len(f.Holds)+2), f.Holds...), "mark", "mark")
		s.Files[i].Holds = holds[:len(f.Holds)]
	}
	before := copied(State{Files: whole})
	return s, func() bool {
		for _, f := range s.Files {
			if all := f.Holds[:len(f.Holds)+2]; all[len(f.Holds)] != "mark" || all[len(f.Holds)+1] != "mark" {
				return false
			}
		}
		return alike(State{Files: whole}, before)
	}
}

// spoilFiles writes over files, their Holds, and the room behind them.
func spoilFiles(l []api.File) {
	for i := range l {
		spoil(l[i].Holds, "other")
	}
	spoil(l, api.File{ID: -77, Name: "other", Holds: []string{"other"}})
}

// spoil writes over a list, and the room behind it.
func spoil[T any](l []T, other T) {
	l = l[:cap(l)]
	for i := range l {
		l[i] = other
	}
}

// does tells an error where Do does not answer as the chapter's words say,
// changes what it is handed, or shares something.
func does(t *testing.T, s State, o api.Op) {
	t.Helper()
	kept := copied(s)
	want, wantAnswer, wantEvents := doOf(s, o)
	given, untouched := roomy(s)
	got, a, l := Do(given, o)
	if !alike(got, want) || !answersAlike(a, wantAnswer) || !slices.Equal(l, wantEvents) {
		t.Errorf("Do(%v, %v) = %v, %v, %v, not %v, %v, %v", kept, o, got, a, l, want, wantAnswer, wantEvents)
	}
	if a.Err != api.OK && (!alike(got, kept) || len(l) > 0 || !answersAlike(a, api.Answer{Err: a.Err})) {
		t.Errorf("Do(%v, %v) with error %d = %v, %v, %v", kept, o, a.Err, got, a, l)
	}
	if !untouched() {
		t.Errorf("Do(%v, %v) changed what was handed in: %v", kept, o, given)
	}
	spoil(a.File.Holds, "other")
	spoil(a.Names, "other")
	if !alike(got, want) || !untouched() {
		t.Errorf("Do(%v, %v) has an answer that shares something", kept, o)
	}
	spoilFiles(got.Files)
	if !untouched() {
		t.Errorf("Do(%v, %v) has a state that shares something", kept, o)
	}
}

func TestFind(t *testing.T) {
	s := State{Files: []api.File{{ID: 3, Name: "b"}, {ID: 4, Name: "a"}, {ID: 5, Name: ""}, {ID: 9, Name: "a"}, {ID: 8, Name: "\xff"}, {ID: 7, Name: "\xff"}}}
	for n, want := range map[string]int{"b": 0, "a": 1, "": 2, "\xff": 4, "c": -1, "A": -1, "ab": -1, "b ": -1, "\ufffd": -1} {
		if got := Find(s, n); got != want {
			t.Errorf("Find of %q: %d", n, got)
		}
		if got := Find(State{Last: 5}, n); got != -1 {
			t.Errorf("Find of %q among none: %d", n, got)
		}
	}
	for _, s := range append(good(), odd()...) {
		for _, n := range append(texts(), append(names(s.Files), names(some())...)...) {
			if got := Find(s, n); got != findOf(s, n) {
				t.Errorf("Find(%v, %q) = %d", s, n, got)
			}
		}
	}
}

// step is an operation on a state, and what it comes to.
type step struct {
	s      State
	o      api.Op
	want   State
	answer api.Answer
	events []api.Event
}

// steps tells an error where one does not come to what it should.
func steps(t *testing.T, l []step) {
	t.Helper()
	for _, x := range l {
		s, a, v := Do(x.s, x.o)
		if !alike(s, x.want) || !answersAlike(a, x.answer) || !slices.Equal(v, x.events) {
			t.Errorf("Do(%v, %v) = %v, %v, %v, not %v, %v, %v", x.s, x.o, s, a, v, x.want, x.answer, x.events)
		}
	}
}

// failed is a step that is an error.
func failed(s State, o api.Op, e api.Errno) step {
	return step{s, o, s, api.Answer{Err: e}, nil}
}

func TestCreate(t *testing.T) {
	long := strings.Repeat("\U0001f5ff", 24)
	one := State{Files: []api.File{{ID: 4, Name: "a", Sealed: true}}, Last: 7, Floor: 3}
	two := State{Files: []api.File{{ID: 4, Name: "a", Sealed: true}, {ID: 8, Name: long}}, Last: 8, Floor: 3}
	full := State{Files: many(12), Last: 12}
	over := State{Files: many(13), Last: 13}
	end := State{Files: []api.File{{ID: 4, Name: "a"}}, Last: top}
	beyond := State{Last: math.MaxInt}
	create := func(n string) api.Op { return api.Op{Kind: api.Create, Name: n} }
	steps(t, []step{
		{State{}, create("a"), State{Files: []api.File{{ID: 1, Name: "a"}}, Last: 1}, api.Answer{N: 1}, []api.Event{{Kind: api.Create, ID: 1, Name: "a"}}},
		{one, create(long), two, api.Answer{N: 8}, []api.Event{{Kind: api.Create, ID: 8, Name: long}}},
		// What else it is handed counts for nothing.
		{State{}, api.Op{Kind: api.Create, Name: "a", Text: "x", Time: 9, A: 1, B: 2}, State{Files: []api.File{{ID: 1, Name: "a"}}, Last: 1}, api.Answer{N: 1}, []api.Event{{Kind: api.Create, ID: 1, Name: "a"}}},
		{State{Last: top - 1}, create("a"), State{Files: []api.File{{ID: top, Name: "a"}}, Last: top}, api.Answer{N: top}, []api.Event{{Kind: api.Create, ID: top, Name: "a"}}},
		{State{Files: many(11), Last: 11}, create("f6"), State{Files: append(many(11), api.File{ID: 12, Name: "f6"}), Last: 12}, api.Answer{N: 12}, []api.Event{{Kind: api.Create, ID: 12, Name: "f6"}}},
		failed(one, create(""), api.ErrName),
		failed(one, create("a/b"), api.ErrName),
		failed(one, create(" a"), api.ErrName),
		failed(one, create("\xff"), api.ErrName),
		failed(one, create(long+"a"), api.ErrName),
		failed(one, api.Op{Kind: api.Create, Text: "b"}, api.ErrName),
		failed(one, create("a"), api.ErrExists),
		failed(full, create("g"), api.ErrMany),
		failed(over, create("g"), api.ErrMany),
		failed(end, create("g"), api.ErrMany),
		failed(State{Last: top}, create("g"), api.ErrMany),
		failed(State{Last: top + 1}, create("g"), api.ErrMany),
		failed(beyond, create("g"), api.ErrMany),
		// In their order: no name, there is one, too many.
		failed(full, create("/"), api.ErrName),
		failed(end, create(""), api.ErrName),
		failed(State{Files: []api.File{{ID: 1, Name: "/"}}, Last: 1}, create("/"), api.ErrName),
		failed(full, create("f7"), api.ErrExists),
		failed(end, create("a"), api.ErrExists),
		// One more than the last ID is none.
		failed(State{Last: -1}, create("a"), api.ErrArg),
		failed(State{Last: math.MinInt}, create("a"), api.ErrArg),
	})
}

// with is the state of some, with the file at that place as it is now.
func with(at int, f api.File) State {
	s := State{Files: some(), Last: 9, Floor: 9}
	s.Files[at] = f
	return s
}

// TestChange: what is done to one file, which stays.
func TestChange(t *testing.T) {
	s := State{Files: some(), Last: 9, Floor: 9}
	sum := api.Digest(sha256.Sum256([]byte("ab")))
	steps(t, []step{
		{s, api.Op{Kind: api.Append, Name: "open", Text: "\u00e9"}, with(0, api.File{ID: 2, Name: "open", Data: "ab\u00e9"}), api.Answer{N: 4}, []api.Event{{Kind: api.Append, ID: 2, Len: 2}}},
		failed(s, api.Op{Kind: api.Append, Name: "open"}, api.ErrArg),
		failed(s, api.Op{Kind: api.Append, Name: "due", Text: "x"}, api.ErrSealed),
		failed(s, api.Op{Kind: api.Append, Name: "full", Text: "x"}, api.ErrMany),
		failed(s, api.Op{Kind: api.Append, Name: "new", Text: "x"}, api.ErrNone),

		{s, api.Op{Kind: api.Seal, Name: "open", Time: 4}, with(0, api.File{ID: 2, Name: "open", Data: "ab", Sealed: true, Until: 4}), api.Answer{N: 2}, []api.Event{{Kind: api.Seal, ID: 2, Time: 4, Len: 2, Sum: sum}}},
		failed(s, api.Op{Kind: api.Seal, Name: "held", Time: 4}, api.ErrSealed),
		failed(s, api.Op{Kind: api.Seal, Name: "open", Time: -1}, api.ErrArg),
		failed(s, api.Op{Kind: api.Seal, Name: "open", Time: top + 1}, api.ErrArg),
		failed(s, api.Op{Kind: api.Seal, Name: "", Time: 4}, api.ErrNone),

		{s, api.Op{Kind: api.Extend, Name: "later", Time: top}, with(2, api.File{ID: 5, Name: "later", Data: "xyz", Sealed: true, Until: top}), api.Answer{N: 3}, []api.Event{{Kind: api.Extend, ID: 5, Time: top}}},
		failed(s, api.Op{Kind: api.Extend, Name: "later", Time: 9}, api.ErrShorter),
		failed(s, api.Op{Kind: api.Extend, Name: "open", Time: 99}, api.ErrOpen),
		failed(s, api.Op{Kind: api.Extend, Name: "later", Time: -1}, api.ErrArg),
		failed(s, api.Op{Kind: api.Extend, Name: "lat", Time: 99}, api.ErrNone),

		{s, api.Op{Kind: api.Hold, Name: "held", Text: "b"}, with(3, api.File{ID: 6, Name: "held", Data: "h", Sealed: true, Until: 3, Holds: []string{"a", "b", "c"}}), api.Answer{N: 1}, []api.Event{{Kind: api.Hold, ID: 6, Name: "b"}}},
		{s, api.Op{Kind: api.Hold, Name: "also", Text: "h"}, with(5, api.File{ID: 9, Name: "also", Sealed: true, Holds: []string{"h"}}), api.Answer{}, []api.Event{{Kind: api.Hold, ID: 9, Name: "h"}}},
		failed(s, api.Op{Kind: api.Hold, Name: "held", Text: "c"}, api.ErrExists),
		failed(s, api.Op{Kind: api.Hold, Name: "held", Text: "/"}, api.ErrName),
		failed(s, api.Op{Kind: api.Hold, Name: "open", Text: "b"}, api.ErrOpen),
		failed(s, api.Op{Kind: api.Hold, Name: "b", Text: "held"}, api.ErrNone),

		{s, api.Op{Kind: api.Release, Name: "held", Text: "a"}, with(3, api.File{ID: 6, Name: "held", Data: "h", Sealed: true, Until: 3, Holds: []string{"c"}}), api.Answer{N: 1}, []api.Event{{Kind: api.Release, ID: 6, Name: "a"}}},
		failed(s, api.Op{Kind: api.Release, Name: "held", Text: "b"}, api.ErrNone),
		failed(s, api.Op{Kind: api.Release, Name: "a", Text: "a"}, api.ErrNone),
	})
}

// TestChangeOfTheFirst: of those that have a Name, which in a state that may be is one.
func TestChangeOfTheFirst(t *testing.T) {
	s := State{Files: []api.File{{ID: 4, Name: "b"}, {ID: 3, Name: "a", Data: "1"}, {ID: 3, Name: "a", Data: "2"}}, Last: 9}
	steps(t, []step{
		{s, api.Op{Kind: api.Append, Name: "a", Text: "x"}, State{Files: []api.File{{ID: 4, Name: "b"}, {ID: 3, Name: "a", Data: "1x"}, {ID: 3, Name: "a", Data: "2"}}, Last: 9}, api.Answer{N: 2}, []api.Event{{Kind: api.Append, ID: 3, Len: 1}}},
		{s, api.Op{Kind: api.Read, Name: "a", B: 1}, s, api.Answer{Text: "1"}, nil},
		{s, api.Op{Kind: api.Stat, Name: "a"}, s, api.Answer{File: api.File{ID: 3, Name: "a"}}, nil},
	})
}

func TestDelete(t *testing.T) {
	s := State{Files: some(), Last: 9, Floor: 9}
	gone := func(at int) State { return State{Files: slices.Delete(some(), at, at+1), Last: 9, Floor: 9} }
	twice := State{Files: []api.File{{ID: 4, Name: "b"}, {ID: 4, Name: "a", Sealed: true}, {ID: 4, Name: "c", Sealed: true}}, Last: 4}
	remove := func(n string) api.Op { return api.Op{Kind: api.Delete, Name: n} }
	steps(t, []step{
		{s, remove("due"), gone(1), api.Answer{N: 3}, []api.Event{{Kind: api.Delete, ID: 3}}},
		{s, remove("also"), gone(5), api.Answer{N: 9}, []api.Event{{Kind: api.Delete, ID: 9}}},
		{State{Files: some()[1:2], Last: 9, Floor: 9}, remove("due"), State{Last: 9, Floor: 9}, api.Answer{N: 3}, []api.Event{{Kind: api.Delete, ID: 3}}},
		{twice, remove("a"), State{Files: []api.File{{ID: 4, Name: "b"}, {ID: 4, Name: "c", Sealed: true}}, Last: 4}, api.Answer{N: 4}, []api.Event{{Kind: api.Delete, ID: 4}}},
		failed(s, remove("open"), api.ErrOpen),
		failed(s, remove("later"), api.ErrRetained),
		failed(s, remove("held"), api.ErrHeld),
		failed(s, remove("new"), api.ErrNone),
		failed(s, remove(""), api.ErrNone),
		failed(s, remove("/"), api.ErrNone),
		failed(State{}, remove("a"), api.ErrNone),
	})
	// An ID that was given is given once.
	s, _, _ = Do(State{Files: some()[5:], Last: 9}, remove("also"))
	if s, a, _ := Do(s, api.Op{Kind: api.Create, Name: "also"}); a.N != 10 || s.Last != 10 || s.Files[0].ID != 10 {
		t.Error(s, a)
	}
}

func TestTick(t *testing.T) {
	for _, x := range []struct{ floor, time, want int }{
		{0, 5, 5},
		{5, 6, 6},
		{5, 5, 5},
		{5, 4, 5},
		{5, -1, 5},
		{5, math.MinInt, 5},
		{0, 0, 0},
		{0, -1, 0},
		{0, top - 1, top - 1},
		{0, top, top},
		{9, top + 1, top},
		{9, math.MaxInt, top},
		{top, top + 1, top},
		{top, math.MaxInt, top},
		{-3, -1, 0},
		{-3, math.MinInt, 0},
		{math.MinInt, 0, 0},
		{-3, 2, 2},
		{top + 5, math.MaxInt, top + 5},
		{math.MaxInt, 7, math.MaxInt},
	} {
		var events []api.Event
		if x.want != x.floor {
			events = []api.Event{{Kind: api.Tick, Time: x.want}}
		}
		steps(t, []step{{
			State{Files: some(), Last: 9, Floor: x.floor},
			api.Op{Kind: api.Tick, Name: "new", Time: x.time},
			State{Files: some(), Last: 9, Floor: x.want}, api.Answer{N: x.want}, events,
		}})
	}
}

func TestSweep(t *testing.T) {
	l := some()
	sweep := api.Op{Kind: api.Sweep, Name: "open", Text: "x", Time: top}
	ahead := State{Files: []api.File{{ID: 1, Name: "a", Sealed: true, Until: 1}, {ID: 2, Name: "b"}}, Last: 2}
	all := State{Files: []api.File{{ID: 1, Name: "b", Sealed: true}, {ID: 2, Name: "a", Sealed: true, Until: 5}, {ID: 3, Name: "c", Sealed: true, Until: 4}}, Last: 3, Floor: 5}
	// Of files of one ID, which may not be, those go that are due.
	twice := State{Files: []api.File{{ID: 4, Name: "a"}, {ID: 4, Name: "b", Sealed: true}, {ID: 4, Name: "c", Sealed: true, Until: 8}, {ID: 4, Name: "b", Sealed: true}}, Last: 4}
	steps(t, []step{
		{State{}, sweep, State{}, api.Answer{}, nil},
		{ahead, sweep, ahead, api.Answer{}, nil},
		{State{Files: l, Last: 9, Floor: 9}, sweep, State{Files: []api.File{l[0], l[2], l[3], l[4]}, Last: 9, Floor: 9}, api.Answer{N: 2}, []api.Event{{Kind: api.Delete, ID: 3}, {Kind: api.Delete, ID: 9}}},
		{State{Files: l, Last: 9, Floor: 8}, sweep, State{Files: l[:5], Last: 9, Floor: 8}, api.Answer{N: 1}, []api.Event{{Kind: api.Delete, ID: 9}}},
		{State{Files: l, Last: 9, Floor: top}, sweep, State{Files: []api.File{l[0], l[3], l[4]}, Last: 9, Floor: top}, api.Answer{N: 3}, []api.Event{{Kind: api.Delete, ID: 3}, {Kind: api.Delete, ID: 5}, {Kind: api.Delete, ID: 9}}},
		{State{Files: l, Last: 9, Floor: -1}, sweep, State{Files: l, Last: 9, Floor: -1}, api.Answer{}, nil},
		{all, sweep, State{Last: 3, Floor: 5}, api.Answer{N: 3}, []api.Event{{Kind: api.Delete, ID: 1}, {Kind: api.Delete, ID: 2}, {Kind: api.Delete, ID: 3}}},
		{twice, sweep, State{Files: []api.File{twice.Files[0], twice.Files[2]}, Last: 4}, api.Answer{N: 2}, []api.Event{{Kind: api.Delete, ID: 4}, {Kind: api.Delete, ID: 4}}},
	})
}

func TestRead(t *testing.T) {
	s := State{Files: some(), Last: 9, Floor: 9}
	read := func(n string, a, b int) api.Op { return api.Op{Kind: api.Read, Name: n, A: a, B: b} }
	steps(t, []step{
		{s, read("open", 0, 2), s, api.Answer{Text: "ab"}, nil},
		{s, read("open", 1, 2), s, api.Answer{Text: "b"}, nil},
		{s, read("later", 1, 2), s, api.Answer{Text: "y"}, nil},
		{s, read("due", 1, 2), s, api.Answer{Text: "\xa9"}, nil},
		{s, read("held", 0, 1), s, api.Answer{Text: "h"}, nil},
		{s, read("held", 1, 1), s, api.Answer{}, nil},
		{s, read("also", 0, 0), s, api.Answer{}, nil},
		{s, read("full", 0, 600), s, api.Answer{Text: strings.Repeat("x", 600)}, nil},
		failed(s, read("open", 0, 3), api.ErrArg),
		failed(s, read("open", 2, 1), api.ErrArg),
		failed(s, read("open", -1, 1), api.ErrArg),
		failed(s, read("open", math.MinInt, math.MaxInt), api.ErrArg),
		failed(s, read("also", 0, 1), api.ErrArg),
		failed(s, read("new", 0, 0), api.ErrNone),
		failed(s, read("new", 2, 1), api.ErrNone),
		failed(State{}, read("", 0, 0), api.ErrNone),
	})
}

func TestStat(t *testing.T) {
	s := State{Files: some(), Last: 9, Floor: 9}
	stat := func(n string) api.Op { return api.Op{Kind: api.Stat, Name: n} }
	steps(t, []step{
		{s, stat("open"), s, api.Answer{File: api.File{ID: 2, Name: "open"}}, nil},
		{s, stat("due"), s, api.Answer{File: api.File{ID: 3, Name: "due", Sealed: true, Until: 9}}, nil},
		{s, stat("held"), s, api.Answer{File: api.File{ID: 6, Name: "held", Sealed: true, Until: 3, Holds: []string{"a", "c"}}}, nil},
		{s, stat("full"), s, api.Answer{File: api.File{ID: 7, Name: "full"}}, nil},
		failed(s, stat("new"), api.ErrNone),
		failed(s, stat(""), api.ErrNone),
		failed(State{}, stat("open"), api.ErrNone),
	})
}

func TestList(t *testing.T) {
	of := func(l ...string) State {
		s := State{Last: 99}
		for i, n := range l {
			s.Files = append(s.Files, api.File{ID: i + 1, Name: n})
		}
		return s
	}
	for _, x := range []struct{ names, want []string }{
		{nil, nil},
		{[]string{"a"}, []string{"a"}},
		{[]string{"b", "a"}, []string{"a", "b"}},
		{[]string{"ab", "b", "a", "B", "a b"}, []string{"B", "a", "a b", "ab", "b"}},
		// By runes, and broken bytes behind all of them.
		{[]string{"\uffee", "\U0001f5ff", "z", "\u00e9"}, []string{"z", "\u00e9", "\uffee", "\U0001f5ff"}},
		{[]string{"\xff", "\U0010ffff", "\x80", "\ufffd"}, []string{"\ufffd", "\U0010ffff", "\x80", "\xff"}},
		{[]string{"b", "a", "b", "", "a"}, []string{"", "a", "a", "b", "b"}},
		{names(many(12)), []string{"f0", "f1", "f10", "f11", "f12", "f2", "f3", "f4", "f5", "f7", "f8", "f9"}},
	} {
		steps(t, []step{{of(x.names...), api.Op{Kind: api.List, Name: "a"}, of(x.names...), api.Answer{Names: x.want}, nil}})
	}
}

func TestAnotherKind(t *testing.T) {
	for _, s := range append(good(), odd()...) {
		for _, k := range []api.Kind{math.MinInt, -256, -2, -1, 12, 13, 255, 256, 268, 1 << 32, math.MaxInt} {
			steps(t, []step{failed(s, api.Op{Kind: k, Name: "open", Text: "x", Time: 9}, api.ErrArg)})
		}
	}
}

func TestExample(t *testing.T) {
	s, a, l := Run(State{}, []api.Op{
		{Kind: api.Create, Name: "a"},
		{Kind: api.Append, Name: "a", Text: "ab"},
		{Kind: api.Seal, Name: "a", Time: 5},
		{Kind: api.Tick, Time: 5},
		{Kind: api.Sweep},
	})
	want := []api.Event{
		{Kind: api.Create, ID: 1, Name: "a"},
		{Kind: api.Append, ID: 1, Len: 2},
		{Kind: api.Seal, ID: 1, Time: 5, Len: 2, Sum: sha256.Sum256([]byte("ab"))},
		{Kind: api.Tick, Time: 5},
		{Kind: api.Delete, ID: 1},
	}
	if !alike(s, State{Last: 1, Floor: 5}) || !slices.Equal(l, want) || !slices.EqualFunc(a, []api.Answer{{N: 1}, {N: 2}, {N: 2}, {N: 5}, {N: 1}}, answersAlike) {
		t.Error(s, a, l)
	}
}

// TestDoOfAll does all operations to all states, most of which may not be.
func TestDoOfAll(t *testing.T) {
	for _, s := range append(good(), odd()...) {
		for _, o := range ops() {
			does(t, s, o)
		}
	}
}

// TestRunOfErrors: with an error the state goes on as it was, and the rest is done.
func TestRunOfErrors(t *testing.T) {
	s, a, l := Run(State{Files: some()[:1], Last: 2, Floor: 1}, []api.Op{
		{Kind: api.Append, Name: "open"},
		{Kind: api.Append, Name: "open", Text: "c"},
		{Kind: api.Create, Name: "open"},
		{Kind: api.Delete, Name: "open"},
		{Kind: 12},
		{Kind: api.Read, Name: "open", A: 1, B: 3},
		{Kind: api.Create, Name: "/"},
		{Kind: api.Create, Name: "b"},
		{Kind: api.Tick, Time: 1},
		{Kind: api.List},
	})
	want := []api.Answer{{Err: api.ErrArg}, {N: 3}, {Err: api.ErrExists}, {Err: api.ErrOpen}, {Err: api.ErrArg}, {Text: "bc"}, {Err: api.ErrName}, {N: 3}, {N: 1}, {Names: []string{"b", "open"}}}
	if !slices.EqualFunc(a, want, answersAlike) || !slices.Equal(l, []api.Event{{Kind: api.Append, ID: 2, Len: 1}, {Kind: api.Create, ID: 3, Name: "b"}}) {
		t.Error(a, l)
	}
	if !alike(s, State{Files: []api.File{{ID: 2, Name: "open", Data: "abc"}, {ID: 3, Name: "b"}}, Last: 3, Floor: 1}) {
		t.Error(s)
	}
}

func TestRunOfNone(t *testing.T) {
	for _, s := range append(good(), odd()...) {
		for _, none := range [][]api.Op{nil, {}} {
			given, untouched := roomy(s)
			got, a, l := Run(given, none)
			if !alike(got, s) || len(a) > 0 || len(l) > 0 {
				t.Errorf("Run(%v) of none = %v, %v, %v", s, got, a, l)
			}
			if spoilFiles(got.Files); !untouched() {
				t.Errorf("Run(%v) of none has a state that shares something", s)
			}
		}
	}
}

// mixed are n operations of l, picked by a seed.
func mixed(l []api.Op, n, seed int) []api.Op {
	var picked []api.Op
	for range n {
		seed = (seed*1103515245 + 12345) % (1 << 31)
		picked = append(picked, l[(seed>>8)%len(l)])
	}
	return picked
}

// runs tells an error where Run is not Do, one by one, changes what it is handed, or shares something.
func runs(t *testing.T, s State, l []api.Op) {
	t.Helper()
	want := copied(s)
	var wantAnswers []api.Answer
	var wantEvents []api.Event
	for _, o := range l {
		next, a, v := doOf(want, o)
		want, wantAnswers, wantEvents = next, append(wantAnswers, a), append(wantEvents, v...)
	}
	given, untouched := roomy(s)
	before := slices.Clone(l)
	got, a, v := Run(given, l)
	if !alike(got, want) || !slices.EqualFunc(a, wantAnswers, answersAlike) || !slices.Equal(v, wantEvents) {
		t.Errorf("Run(%v, %v) = %v, %v, %v, not %v, %v, %v", s, l, got, a, v, want, wantAnswers, wantEvents)
	}
	if !untouched() || !slices.Equal(l, before) {
		t.Errorf("Run(%v, %v) changed what was handed in", s, before)
	}
	for i := range a {
		spoil(a[i].File.Holds, strconv.Itoa(i))
		spoil(a[i].Names, strconv.Itoa(i))
	}
	for i := range a {
		other := func(s string) bool { return s != strconv.Itoa(i) }
		if slices.ContainsFunc(a[i].File.Holds, other) || slices.ContainsFunc(a[i].Names, other) {
			t.Errorf("Run(%v, %v) has an answer, %d, that shares something with another one", s, l, i)
		}
	}
	if !alike(got, want) {
		t.Errorf("Run(%v, %v) has an answer that shares something with its state", s, l)
	}
	if spoilFiles(got.Files); !untouched() {
		t.Errorf("Run(%v, %v) has a state that shares something", s, l)
	}
}

func TestRunOfAll(t *testing.T) {
	l := ops()
	for i, s := range append(good(), odd()...) {
		runs(t, s, l)
		for k := range 20 {
			runs(t, s, mixed(l, 60, i*20+k))
		}
	}
}

func TestValid(t *testing.T) {
	for _, s := range good() {
		if !Valid(s) {
			t.Errorf("%v may not be", s)
		}
	}
	for _, s := range append(good(), odd()...) {
		if got := Valid(s); got != mayBe(s) {
			t.Errorf("Valid(%v) = %v", s, got)
		}
	}
}

// change is a state that has become another one.
type change struct {
	what string
	to   func(s *State)
}

// TestValidOfNone breaks each thing that is asked of a state, alone.
func TestValidOfNone(t *testing.T) {
	for _, c := range []change{
		{"a zero file", func(s *State) { s.Files[0] = api.File{} }},
		{"a first file that may not be", func(s *State) { s.Files[0].Until = 1 }},
		{"a last file that may not be", func(s *State) { s.Files[5].Holds = []string{"b", "a"} }},
		{"a file of no name", func(s *State) { s.Files[2].Name = "/" }},
		{"a file that is too long", func(s *State) { s.Files[4].Data += "x" }},
		{"ID 0", func(s *State) { s.Files[0].ID = 0 }},
		{"ID below 0", func(s *State) { s.Files[0].ID = -1 }},
		{"IDs falling", func(s *State) { s.Files[1].ID, s.Files[2].ID = 5, 3 }},
		{"last IDs falling", func(s *State) { s.Files[4].ID, s.Files[5].ID = 9, 7 }},
		{"an ID twice", func(s *State) { s.Files[1].ID = 2 }},
		{"a last ID twice", func(s *State) { s.Files[4].ID = 9 }},
		{"an ID above Last", func(s *State) { s.Last = 8 }},
		{"IDs, and none was given", func(s *State) { s.Last = 0 }},
		{"a Name twice, side by side", func(s *State) { s.Files[1].Name = "open" }},
		{"a Name twice, far away", func(s *State) { s.Files[5].Name = "open" }},
		{"a Name twice, at the end", func(s *State) { s.Files[4].Name = "also" }},
		{"13 files", func(s *State) { s.Files, s.Last = many(13), 13 }},
		{"40 files", func(s *State) {
			s.Files = many(13)
			for i := range 27 {
				s.Files = append(s.Files, api.File{ID: 14 + i, Name: "g" + strconv.Itoa(i)})
			}
			s.Last = 40
		}},
		{"Last below 0", func(s *State) { s.Files, s.Last = nil, -1 }},
		{"Last far below 0", func(s *State) { s.Files, s.Last = nil, math.MinInt }},
		{"Last beyond the end", func(s *State) { s.Last = top + 1 }},
		{"Last far beyond the end", func(s *State) { s.Last = math.MaxInt }},
		{"Floor below 0", func(s *State) { s.Floor = -1 }},
		{"Floor far below 0", func(s *State) { s.Floor = math.MinInt }},
		{"Floor beyond the end", func(s *State) { s.Floor = top + 1 }},
		{"Floor far beyond the end", func(s *State) { s.Floor = math.MaxInt }},
	} {
		s := State{Files: some(), Last: 9, Floor: 9}
		if !Valid(s) {
			t.Fatal(s, "may not be")
		}
		if c.to(&s); Valid(s) || mayBe(s) {
			t.Errorf("%s: %v may be", c.what, s)
		}
	}
}

func TestSame(t *testing.T) {
	for _, c := range []change{
		{"Last", func(s *State) { s.Last++ }},
		{"Floor", func(s *State) { s.Floor-- }},
		{"no files", func(s *State) { s.Files = nil }},
		{"fewer files", func(s *State) { s.Files = s.Files[:5] }},
		{"fewer files ahead", func(s *State) { s.Files = s.Files[1:] }},
		{"more files", func(s *State) { s.Files = append(s.Files, api.File{}) }},
		{"files in another order", func(s *State) { s.Files[0], s.Files[1] = s.Files[1], s.Files[0] }},
		{"the first ID", func(s *State) { s.Files[0].ID = 1 }},
		{"the last Name", func(s *State) { s.Files[5].Name = "als" }},
		{"Data", func(s *State) { s.Files[1].Data = "" }},
		{"Sealed", func(s *State) { s.Files[0].Sealed = true }},
		{"Until", func(s *State) { s.Files[5].Until = 1 }},
		{"Holds", func(s *State) { s.Files[3].Holds[1] = "d" }},
		{"Holds none", func(s *State) { s.Files[3].Holds = nil }},
	} {
		s := State{Files: some(), Last: 9, Floor: 9}
		o := copied(s)
		if !Same(s, o) || !Same(s, s) {
			t.Fatal("one is not as itself")
		}
		if c.to(&o); Same(s, o) || Same(o, s) || !Same(o, copied(o)) {
			t.Errorf("%s: %v and %v", c.what, s, o)
		}
	}
	empty := State{Files: []api.File{}}
	if !Same(empty, State{}) || !Same(State{}, empty) || !Same(empty, empty) || !Same(State{}, State{}) {
		t.Error("Files without things are not alike")
	}
	if a, b := (State{Files: []api.File{{}}}), (State{Files: []api.File{{Holds: []string{}}}}); !Same(a, b) || !Same(b, a) || Same(a, empty) || Same(State{}, b) {
		t.Error("Holds without things are not alike")
	}
	l := append(good(), odd()...)
	for _, a := range l {
		for _, b := range l {
			if got := Same(a, copied(b)); got != alike(a, b) {
				t.Errorf("Same(%v, %v) = %v", a, b, got)
			}
		}
	}
}

// TestLeaves: what is only asked changes nothing.
func TestLeaves(t *testing.T) {
	for _, s := range append(good(), odd()...) {
		a, left := roomy(s)
		b, right := roomy(s)
		Find(a, "open")
		Valid(a)
		if !Same(a, b) || !left() || !right() || !alike(a, s) {
			t.Errorf("%v became %v and %v", s, a, b)
		}
	}
}

// few are operations by which a state comes to be all that it may, in small.
func few() []api.Op {
	l := []api.Op{{Kind: api.Sweep}, {Kind: api.List}, {Kind: -1}, {Kind: 12}}
	for _, at := range []int{-1, 3, 5, top + 1} {
		l = append(l, api.Op{Kind: api.Tick, Time: at})
	}
	for _, n := range []string{"a", "b", "\xff"} {
		l = append(l, api.Op{Kind: api.Create, Name: n}, api.Op{Kind: api.Delete, Name: n},
			api.Op{Kind: api.Append, Name: n, Text: strings.Repeat("x", 400)}, api.Op{Kind: api.Append, Name: n},
			api.Op{Kind: api.Seal, Name: n, Time: 4}, api.Op{Kind: api.Seal, Name: n, Time: top + 1},
			api.Op{Kind: api.Extend, Name: n, Time: 6}, api.Op{Kind: api.Extend, Name: n, Time: -1},
			api.Op{Kind: api.Hold, Name: n, Text: "h"}, api.Op{Kind: api.Release, Name: n, Text: "h"}, api.Op{Kind: api.Hold, Name: n, Text: "/"},
			api.Op{Kind: api.Read, Name: n, B: 1}, api.Op{Kind: api.Stat, Name: n})
	}
	return l
}

// TestStaysOneThatMayBe goes to all states that come to be from a zero one, of at
// most 4 IDs: each may be; with an error it is as it was; and what changed it is
// told by events that may be.
func TestStaysOneThatMayBe(t *testing.T) {
	seen := map[string]int{}
	went := 0
	for work := []State{{}}; len(work) > 0; work = work[1:] {
		s := work[0]
		key := fmt.Sprintln(s)
		if seen[key]++; seen[key] > 1 || s.Last > 4 {
			continue
		}
		for _, o := range few() {
			next, a, l := Do(s, o)
			stays(t, s, o, next, a, l)
			went += max(0, len(s.Files)-len(next.Files))
			work = append(work, next)
		}
	}
	if len(seen) < 1000 || went < 1000 {
		t.Errorf("%d states, %d went", len(seen), went)
	}
}

// stays tells an error where what is done to a state that may be makes one of it
// that may not, or lets go what is kept.
func stays(t *testing.T, s State, o api.Op, next State, a api.Answer, l []api.Event) {
	t.Helper()
	if !Valid(next) || next.Last < s.Last || next.Floor < s.Floor {
		t.Errorf("Do(%v, %v) = %v, which may not be", s, o, next)
	}
	changed := !Same(s, next)
	if a.Err != api.OK && (changed || !answersAlike(a, api.Answer{Err: a.Err})) || changed && len(l) == 0 {
		t.Errorf("Do(%v, %v) = %v, %v, %v", s, o, next, a, l)
	}
	for _, v := range l {
		if !event.Valid(v) || a.Err != api.OK {
			t.Errorf("Do(%v, %v) is told by %v", s, o, v)
		}
	}
	for _, f := range s.Files {
		at := Find(next, f.Name)
		if gone := at < 0; gone && (!f.Sealed || rule.Kept(f, s.Floor)) || !gone && f.Sealed && next.Files[at].Data != f.Data {
			t.Errorf("Do(%v, %v) = %v, of which %v is kept", s, o, next, f)
		}
	}
}

// TestAllThatMayBe does all operations to states that may be: so they stay.
func TestAllThatMayBe(t *testing.T) {
	for _, s := range good() {
		for _, o := range ops() {
			next, a, l := Do(s, o)
			stays(t, s, o, next, a, l)
		}
	}
}

// TestManyAtATime: 12, and once one went, one more; IDs are given once each.
func TestManyAtATime(t *testing.T) {
	s := State{}
	for i := range 12 {
		next, a, _ := Do(s, api.Op{Kind: api.Create, Name: "f" + strconv.Itoa(i)})
		if a.N != i+1 || len(next.Files) != i+1 || !Valid(next) {
			t.Fatal(i, next, a)
		}
		s = next
	}
	s, a, _ := Run(s, []api.Op{
		{Kind: api.Create, Name: "g"},
		{Kind: api.Seal, Name: "f3"},
		{Kind: api.Delete, Name: "f3"},
		{Kind: api.Create, Name: "f3"},
		{Kind: api.Create, Name: "g"},
	})
	if !slices.EqualFunc(a, []api.Answer{{Err: api.ErrMany}, {}, {N: 4}, {N: 13}, {Err: api.ErrMany}}, answersAlike) || len(s.Files) != 12 || Find(s, "f3") != 11 || !Valid(s) {
		t.Error(s, a)
	}
}

// FuzzModel does operations, told by the bytes of a text, to a state with a file
// of each sort, and one of a text's Holds.
func FuzzModel(f *testing.F) {
	f.Add("n", "ab", "a\nc", "\x00\x01\x02\x05\x04\x00", true, 3, 9, 9, 8, 20)
	f.Add("open", "ab", "", "\x00\x07\x08\x06\x0b\x0a\x09", false, 20, 0, 99, 0, 1)
	f.Add("a/b", strings.Repeat("x", 600), "c\na\nb\nd\ne", "\x00\x08\x07\x08", true, top, -1, top, top+1, -1)
	f.Add("", "\xff", "\xff", "\x0c\xff\x00", false, -1, math.MaxInt, -5, math.MinInt, 5)
	f.Fuzz(func(t *testing.T, n, data, lines, told string, sealed bool, id, until, last, floor, at int) {
		g := api.File{ID: id, Name: n, Data: data, Sealed: sealed, Until: until}
		if lines != "" {
			g.Holds = strings.Split(lines, "\n")
		}
		s := State{Files: append(some(), g), Last: last, Floor: floor}
		if Valid(s) != mayBe(s) || !Same(s, copied(s)) || Find(s, n) != findOf(s, n) {
			t.Errorf("Valid(%v) = %v", s, Valid(s))
		}
		labels := append(texts(), n, "open", "due", "held")
		var l []api.Op
		for i, b := range []byte(told[:min(len(told), 40)]) {
			o := api.Op{Kind: api.Kind(int(b)%14 - 1), Name: labels[(i*7+int(b))%len(labels)], Text: lines, Time: at + i, A: i - 1, B: at - i}
			if b >= 128 {
				o.Name = n
			}
			l = append(l, o)
			does(t, s, o)
		}
		runs(t, s, l)
	})
}
