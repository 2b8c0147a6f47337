package feed_test

import (
	"slices"
	"testing"

	"doorman/api"
	"doorman/book"
	"doorman/feed"
)

// What befalls a feed.
const (
	watch = iota
	unwatch
	told
	drained
)

// deed is one thing that befell: of a client and a user, or changes that were told.
type deed struct {
	kind, who int
	user      string
	changes   []book.Change
	seq       uint64
}

// diary is all that befell a feed, from its beginning on: what has to be answered is read off it.
type diary struct {
	room  int
	deeds []deed
}

// watches tells whether a client watched a user behind so many deeds: the last one of the two decides.
func (d diary) watches(who int, user string, n int) bool {
	for _, x := range slices.Backward(d.deeds[:n]) {
		if x.who == who && x.user == user && (x.kind == watch || x.kind == unwatch) {
			return x.kind == watch
		}
	}
	return false
}

// befell is what befell whom a client watches, while it did, since its last Drain.
func (d diary) befell(who int) []api.Event {
	var l []api.Event
	for n, x := range d.deeds {
		if x.kind == drained && x.who == who {
			l = nil
		}
		if x.kind != told {
			continue
		}
		for _, c := range x.changes {
			if d.watches(who, c.User, n) {
				l = append(l, event(c, x.seq))
			}
		}
	}
	return l
}

// do does a deed, and holds what is answered against the diary; what a Drain answered is handed on.
func (d *diary) do(t *testing.T, f *feed.Feed, x deed) []api.Event {
	t.Helper()
	var drain []api.Event
	switch x.kind {
	case watch:
		f.Watch(x.who, x.user)
	case unwatch:
		f.Unwatch(x.who, x.user)
	case told:
		tell(t, f, x.seq, x.changes...)
	case drained:
		all := d.befell(x.who)
		fits := min(max(d.room, 0), len(all))
		var lost bool
		drain, lost = f.Drain(x.who)
		if !slices.Equal(drain, all[:fits]) || lost != (fits < len(all)) {
			t.Errorf("behind %v, with room for %d: Drain(%d) = %v, %v, but what befell is %v", d.deeds, d.room, x.who, drain, lost, all)
		}
	}
	d.deeds = append(d.deeds, x)
	return drain
}

// checkWho holds Watching and Count of a client against the diary.
func (d diary) checkWho(t *testing.T, f *feed.Feed, who int, users []string) {
	t.Helper()
	n := 0
	for _, user := range users {
		want := d.watches(who, user, len(d.deeds))
		if got := f.Watching(who, user); got != want {
			t.Errorf("behind %v: Watching(%d, %q) = %v", d.deeds, who, user, got)
		}
		if want {
			n++
		}
	}
	if got := f.Count(who); got != n {
		t.Errorf("behind %v: Count(%d) = %d, not %d", d.deeds, who, got, n)
	}
}

// 9.4: all scripts of five deeds of two clients and two users, at small rooms, and then a Drain of both.
func TestAllSmallScripts(t *testing.T) {
	users := []string{"ann", ""}
	deeds := []deed{
		{kind: watch, who: 0, user: "ann"}, {kind: watch, who: 0, user: ""}, {kind: watch, who: 7, user: "ann"},
		{kind: unwatch, who: 0, user: "ann"}, {kind: unwatch, who: 7, user: "ann"},
		{kind: told, changes: []book.Change{change("ann", 1)}, seq: 1},
		{kind: told, changes: []book.Change{change("", 2), change("ann", 3)}, seq: 2},
		{kind: drained, who: 0}, {kind: drained, who: 7},
	}
	const length = 5
	scripts := 1
	for range length {
		scripts *= len(deeds)
	}
	for _, room := range []int{-1, 0, 1, 2, 3} {
		for script := range scripts {
			f, d := feed.New(room), diary{room: room}
			for rest := script; len(d.deeds) < length; rest /= len(deeds) {
				d.do(t, f, deeds[rest%len(deeds)])
			}
			for _, who := range []int{0, 7} {
				d.checkWho(t, f, who, users)
				d.do(t, f, deed{kind: drained, who: who})
			}
			if t.Failed() {
				return
			}
		}
	}
}

// 9.4: long scripts of all clients; all that was drained on the way stays as it was.
func TestLongScripts(t *testing.T) {
	for _, room := range []int{-3, 0, 1, 2, 5, 16, 1 << 30} {
		n := uint32(room) + 7
		roll := func(below int) int {
			n = n*1664525 + 1013904223
			return int(n>>8) % below
		}
		f, d := feed.New(room), diary{room: room}
		var answers, held [][]api.Event
		for i := range 500 {
			x := deed{kind: []int{watch, watch, unwatch, told, told, told, drained}[roll(7)], who: roll(8)}
			switch x.kind {
			case watch, unwatch:
				x.user = names[roll(len(names))]
			case told:
				x.seq = uint64(roll(300))
				for k := range roll(4) {
					x.changes = append(x.changes, change(names[roll(len(names))], 10*i+k))
				}
			}
			l := d.do(t, f, x)
			answers, held = append(answers, l), append(held, slices.Clone(l))
			d.checkWho(t, f, roll(8), names)
			if t.Failed() {
				return
			}
		}
		for _, who := range clients {
			d.do(t, f, deed{kind: drained, who: who})
		}
		for i, l := range answers {
			checkEvents(t, "an answer, behind the script", l, held[i])
		}
	}
}

// 9.4: books' changes, told as they come: as long as a client watches a user, and nothing is lost, what it is told of it goes on where it stopped.
func TestToldGoesOn(t *testing.T) {
	var b book.Book
	f := feed.New(1 << 20)
	users := []string{"ann", "bob", "zoe"}
	// The client 0 watches all from the beginning on; the client 1 watches ann from time to time.
	for _, user := range users {
		f.Watch(0, user)
	}
	said := map[string]api.Presence{}
	var of1 []api.Event
	n := uint32(5)
	roll := func(below int) int {
		n = n*1664525 + 1013904223
		return int(n>>8) % below
	}
	for now := range uint64(2000) {
		var changes []book.Change
		if roll(5) == 0 {
			b, changes = book.Sweep(b, now)
		} else {
			x := api.Op{Kind: 1 + roll(3), User: users[roll(3)], Id: roll(3), Status: roll(4), Prio: roll(3), Ttl: uint64(roll(20))}
			b, changes, _ = book.Write(b, x, now, 2)
		}
		if now%100 == 0 {
			f.Watch(1, "ann")
		}
		if now%100 == 40 {
			f.Unwatch(1, "ann")
		}
		tell(t, f, now, changes...)
		for _, c := range changes {
			if c.User == "ann" && now%100 < 40 {
				of1 = append(of1, event(c, now))
			}
		}
		if roll(10) > 0 {
			continue
		}
		l, lost := f.Drain(0)
		for _, e := range l {
			if lost || e.Old != said[e.User] || e.Old == e.New {
				t.Errorf("at %d: %v is told, lost is %v, but told last was %v", now, e, lost, said[e.User])
			}
			said[e.User] = e.New
		}
		for _, user := range users {
			if e, _ := b.Get(user); e.Told != said[user] {
				t.Errorf("at %d: told last of %q is %v, but the book has %v", now, user, said[user], e.Told)
			}
		}
	}
	checkDrain(t, "from time to time", f, 1, false, of1...)
}
