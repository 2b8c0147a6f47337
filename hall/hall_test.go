package hall_test

import (
	"fmt"
	"math"
	"slices"
	"strconv"
	"testing"

	"doorman/api"
	"doorman/book"
	"doorman/hall"
	"doorman/hash"
)

// noStripes are numbers of no stripe, of up to eight.
var noStripes = []int{-1, -2, -8, -256, math.MinInt, 8, 9, 16, 256, 1 << 32, 1 << 62, math.MaxInt}

// strangers are no clients.
var strangers = []int{-1, -2, -8, -256, math.MinInt, 8, 9, 10, 16, 256, 1 << 32, math.MaxInt}

func sizes(stripes, sessions, queue int, epochs uint64) api.Config {
	return api.Config{Stripes: stripes, Sessions: sessions, Queue: queue, Watches: 1, Epochs: epochs}
}

// ordinary are sizes at which nothing is full soon.
var ordinary = sizes(4, 8, 16, 1000)

func set(user string, id, status int, ttl uint64) api.Op {
	return api.Op{Kind: api.Set, User: user, Id: id, Status: status, Ttl: ttl}
}

// op is a Beat or a Clear; of the latter the time counts for nothing.
func op(kind int, user string, id int, ttl uint64) api.Op {
	return api.Op{Kind: kind, User: user, Id: id, Ttl: ttl}
}

// at is a time, with the number of a writing.
func at(now, seq uint64) api.Time { return api.Time{Now: now, Seq: seq} }

// closedAt is a time at which the table is closed.
func closedAt(now, seq uint64) api.Time { return api.Time{Now: now, Seq: seq, Closed: true} }

// usersIn are so many users in a stripe, of so many, by rising names.
func usersIn(stripe, stripes, n int) []string {
	var l []string
	for i := 100; len(l) < n; i++ {
		if user := "u" + strconv.Itoa(i); hash.Stripe(user, stripes) == stripe {
			l = append(l, user)
		}
	}
	return l
}

// told is a book's users, with all that is in their entries.
func told(b book.Book) string {
	l := []string{}
	for user, e := range b.All() {
		l = append(l, fmt.Sprintf("%s %v %v", user, e.Sessions, e.Told))
	}
	return fmt.Sprint(l)
}

// scribble writes junk into all of a list's memory, spare room included.
func scribble[T any](l []T, junk T) {
	all := l[:cap(l)]
	for i := range all {
		all[i] = junk
	}
}

// face is what is asked of a table, and of a plain one.
type face interface {
	Config() api.Config
	Acts() []api.Act
	Look(who int) api.Time
	Take(who int) api.Time
	Pass(who int, by uint64)
	Shut(who int) bool
	Free(s int) bool
	Lock(who, s int) bool
	Unlock(who, s int) bool
	Epoch(who, s int) uint64
	Begin(who, s int)
	End(who, s int)
	Snap(who, s int) book.Book
	Publish(who, s int)
	Write(who, s int, x api.Op, t api.Time) api.Errno
	Sweep(who, s int, t api.Time)
	Read(who, s int) book.Book
	Count(who, s int, user string) (int, bool)
	Watch(who, s int, user string, on bool)
	Drain(who, s int) ([]api.Event, bool)
	Stored() int
	Now() api.Time
	Quiet(s int) bool
}

// seen is all that may be asked without an act, but for the acts themselves.
func seen(f face) string {
	var free, quiet []bool
	for s := range f.Config().Stripes {
		free, quiet = append(free, f.Free(s)), append(quiet, f.Quiet(s))
	}
	return fmt.Sprintf("sizes %v, time %v, stored %d, free %v, quiet %v", f.Config(), f.Now(), f.Stored(), free, quiet)
}

// deed is something that is done to a table; what was answered is told as words.
type deed struct {
	name string
	do   func(face) string
}

func look(who int) deed {
	return deed{fmt.Sprintf("Look(%d)", who), func(f face) string { return fmt.Sprint(f.Look(who)) }}
}

func take(who int) deed {
	return deed{fmt.Sprintf("Take(%d)", who), func(f face) string { return fmt.Sprint(f.Take(who)) }}
}

func pass(who int, by uint64) deed {
	return deed{fmt.Sprintf("Pass(%d, %d)", who, by), func(f face) string { f.Pass(who, by); return "" }}
}

func shut(who int) deed {
	return deed{fmt.Sprintf("Shut(%d)", who), func(f face) string { return fmt.Sprint(f.Shut(who)) }}
}

func lock(who, s int) deed {
	return deed{fmt.Sprintf("Lock(%d, %d)", who, s), func(f face) string { return fmt.Sprint(f.Lock(who, s)) }}
}

func unlock(who, s int) deed {
	return deed{fmt.Sprintf("Unlock(%d, %d)", who, s), func(f face) string { return fmt.Sprint(f.Unlock(who, s)) }}
}

func epoch(who, s int) deed {
	return deed{fmt.Sprintf("Epoch(%d, %d)", who, s), func(f face) string { return fmt.Sprint(f.Epoch(who, s)) }}
}

func begin(who, s int) deed {
	return deed{fmt.Sprintf("Begin(%d, %d)", who, s), func(f face) string { f.Begin(who, s); return "" }}
}

func end(who, s int) deed {
	return deed{fmt.Sprintf("End(%d, %d)", who, s), func(f face) string { f.End(who, s); return "" }}
}

func snap(who, s int) deed {
	return deed{fmt.Sprintf("Snap(%d, %d)", who, s), func(f face) string { return told(f.Snap(who, s)) }}
}

func publish(who, s int) deed {
	return deed{fmt.Sprintf("Publish(%d, %d)", who, s), func(f face) string { f.Publish(who, s); return "" }}
}

func write(who, s int, x api.Op, t api.Time) deed {
	return deed{fmt.Sprintf("Write(%d, %d, %v, %v)", who, s, x, t), func(f face) string { return fmt.Sprint(f.Write(who, s, x, t)) }}
}

func sweep(who, s int, t api.Time) deed {
	return deed{fmt.Sprintf("Sweep(%d, %d, %v)", who, s, t), func(f face) string { f.Sweep(who, s, t); return "" }}
}

func read(who, s int) deed {
	return deed{fmt.Sprintf("Read(%d, %d)", who, s), func(f face) string { return told(f.Read(who, s)) }}
}

func count(who, s int, user string) deed {
	return deed{fmt.Sprintf("Count(%d, %d, %q)", who, s, user), func(f face) string { return fmt.Sprint(f.Count(who, s, user)) }}
}

func watch(who, s int, user string, on bool) deed {
	return deed{fmt.Sprintf("Watch(%d, %d, %q, %v)", who, s, user, on), func(f face) string { f.Watch(who, s, user, on); return "" }}
}

func drain(who, s int) deed {
	return deed{fmt.Sprintf("Drain(%d, %d)", who, s), func(f face) string { return fmt.Sprint(f.Drain(who, s)) }}
}

// table is a table beside a plain one, to which the same is done.
type table struct {
	t *testing.T
	h *hall.Hall
	p *plain
}

func newTable(t *testing.T, c api.Config) *table {
	t.Helper()
	h, err := hall.New(c)
	if h == nil || err != api.OK {
		t.Fatalf("New(%v) = %v, %d", c, h, err)
	}
	b := &table{t, h, newPlain(c)}
	b.see("New")
	return b
}

// see holds all that is no act against the plain table's; the acts are asked last, so that they would tell of one.
func (b *table) see(what string) {
	b.t.Helper()
	if got, want := seen(b.h), seen(b.p); got != want {
		b.t.Errorf("%s: it is %s, not %s", what, got, want)
	}
	if got, want := b.h.Acts(), b.p.Acts(); !slices.Equal(got, want) {
		b.t.Errorf("%s: the acts are %v, not %v", what, got, want)
	}
}

// do does a deed to both tables, and holds what is answered, and then all else, against each other.
func (b *table) do(d deed) string {
	b.t.Helper()
	got, want := d.do(b.h), d.do(b.p)
	if got != want {
		b.t.Errorf("%s = %s, not %s", d.name, got, want)
	}
	b.see(d.name)
	return got
}

// is does a deed, of which just this has to be answered.
func (b *table) is(want string, d deed) {
	b.t.Helper()
	if got := b.do(d); got != want {
		b.t.Errorf("%s = %s, not %s", d.name, got, want)
	}
}

// acts does a deed, which has to be just these acts.
func (b *table) acts(d deed, want ...api.Act) {
	b.t.Helper()
	n := len(b.h.Acts())
	b.do(d)
	if got := b.h.Acts(); len(got) < n || !slices.Equal(got[n:], want) {
		b.t.Errorf("%s: the acts are %v behind the first %d ones, not %v", d.name, got, n, want)
	}
}
