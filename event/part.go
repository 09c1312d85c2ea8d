package event

import (
	"strconv"

	"cenotaph/api"
	"cenotaph/name"
	"cenotaph/sha"
	"cenotaph/wire"
)

const (
	// lastID is the greatest ID of a file.
	lastID = 1 << 40
	// longest is how many bytes a name that is read may have.
	longest = 100
	// shown is how many digits of a digest are shown.
	shown = 8
)

// words are the kinds of events as they are shown, in the kinds' order.
var words = [...]string{"create", "append", "seal", "extend", "hold", "release", "delete", "tick"}

// part is one of the things that make an event.
type part interface {
	// valid tells whether an event may have it: only then it is put, or shown.
	valid() bool
	put() string
	show() string
	// get is the part of the same type that s begins with, and what is behind it.
	get(s string) (part, string, bool)
}

// The types of parts. What is added is a Len too, but other than a length it is
// never 0; a label is the name of a file, or of a hold.
type (
	kind   api.Kind
	id     int
	label  string
	moment int
	added  int
	length int
	sum    api.Digest
)

func (k kind) valid() bool   { return within(int(k), 0, len(words)-1) }
func (n id) valid() bool     { return within(int(n), 1, lastID) }
func (t label) valid() bool  { return name.Valid(string(t)) }
func (n moment) valid() bool { return within(int(n), 0, api.MaxTime) }
func (n added) valid() bool  { return within(int(n), 1, api.MaxFile) }
func (n length) valid() bool { return within(int(n), 0, api.MaxFile) }
func (d sum) valid() bool    { return true }

func (k kind) put() string   { return wire.Num(int(k)) }
func (n id) put() string     { return wire.Num(int(n)) }
func (t label) put() string  { return wire.Text(string(t)) }
func (n moment) put() string { return wire.Num(int(n)) }
func (n added) put() string  { return wire.Num(int(n)) }
func (n length) put() string { return wire.Num(int(n)) }
func (d sum) put() string    { return wire.Sum(api.Digest(d)) }

func (k kind) show() string   { return words[k] }
func (n id) show() string     { return strconv.Itoa(int(n)) }
func (t label) show() string  { return name.Quote(string(t)) }
func (n moment) show() string { return strconv.Itoa(int(n)) }
func (n added) show() string  { return strconv.Itoa(int(n)) }
func (n length) show() string { return strconv.Itoa(int(n)) }
func (d sum) show() string    { return sha.Text(api.Digest(d))[:shown] }

func (kind) get(s string) (part, string, bool) {
	n, rest, ok := wire.GetNum(s)
	return kind(n), rest, ok
}

func (id) get(s string) (part, string, bool) {
	n, rest, ok := wire.GetNum(s)
	return id(n), rest, ok
}

func (label) get(s string) (part, string, bool) {
	t, rest, ok := wire.GetText(s, longest)
	return label(t), rest, ok
}

func (moment) get(s string) (part, string, bool) {
	n, rest, ok := wire.GetNum(s)
	return moment(n), rest, ok
}

func (added) get(s string) (part, string, bool) {
	n, rest, ok := wire.GetNum(s)
	return added(n), rest, ok
}

func (length) get(s string) (part, string, bool) {
	n, rest, ok := wire.GetNum(s)
	return length(n), rest, ok
}

func (sum) get(s string) (part, string, bool) {
	d, rest, ok := wire.GetSum(s)
	return sum(d), rest, ok
}

func within(n, least, most int) bool { return n >= least && n <= most }
