package feed_test

import (
	"math"
	"slices"
	"testing"

	"doorman/api"
	"doorman/book"
	"doorman/feed"
)

const top = math.MaxUint64

// clients are all that there are.
var clients = []int{0, 1, 2, 3, 4, 5, 6, 7}

// strangers are no clients.
var strangers = []int{-1, -2, -8, -256, math.MinInt, 8, 9, 10, 15, 16, 64, 256, 1 << 32, 1<<32 + 1, math.MaxInt}

// names are users that are easily taken for each other.
var names = []string{"ann", "", "an", "anna", "Ann", "ann\x00", "\x00", "\xff\xfe", "a name of far more bytes than a name may have"}

func pres(status, prio, live int) api.Presence {
	return api.Presence{Status: status, Prio: prio, Live: live}
}

// change is one of a user, of which each field tells its own number.
func change(user string, n int) book.Change {
	return book.Change{User: user, Old: pres(n, n+1, n+2), New: pres(n+3, n+4, n+5)}
}

// event is what a change is told by.
func event(c book.Change, seq uint64) api.Event {
	return api.Event{User: c.User, Old: c.Old, New: c.New, Seq: seq}
}

// watched is a feed in which a client watches users.
func watched(room, who int, users ...string) *feed.Feed {
	f := feed.New(room)
	for _, user := range users {
		f.Watch(who, user)
	}
	return f
}

// roomy is a list like l, in memory of its own, with spare room behind it that holds junk, so that a call that looks at spare room is seen.
func roomy[T any](l []T, junk T) []T {
	all := slices.Repeat([]T{junk}, len(l)+3)
	copy(all, l)
	return all[:len(l)]
}

// scribble writes junk into all of a list's memory, spare room included.
func scribble[T any](l []T, junk T) {
	all := l[:cap(l)]
	for i := range all {
		all[i] = junk
	}
}

var (
	junkChange = book.Change{User: "ann", Old: pres(-77, -77, -77)}
	junkEvent  = api.Event{User: "ann", New: pres(-77, -77, -77)}
)

// tell is Tell of a list with spare room: it sees that the list is left as it was, and then writes junk into it, so that a feed that keeps it is seen.
func tell(t *testing.T, f *feed.Feed, seq uint64, l ...book.Change) {
	t.Helper()
	handed := roomy(l, junkChange)
	all := handed[:cap(handed)]
	before := slices.Clone(all)
	f.Tell(handed, seq)
	if !slices.Equal(all, before) {
		t.Errorf("Tell: what was handed in is changed from %v to %v", before, all)
	}
	scribble(handed, junkChange)
}

func checkEvents(t *testing.T, what string, got, want []api.Event) {
	t.Helper()
	if !slices.Equal(got, want) {
		t.Errorf("%s: the events are %v, not %v", what, got, want)
	}
}

// checkDrain drains a client twice: nothing is left behind the first time, and what was answered then stays.
func checkDrain(t *testing.T, what string, f *feed.Feed, who int, lost bool, want ...api.Event) {
	t.Helper()
	got, gotLost := f.Drain(who)
	checkEvents(t, what, got, want)
	if gotLost != lost {
		t.Errorf("%s: Drain(%d) tells %v of what is lost", what, who, gotLost)
	}
	again, lostAgain := f.Drain(who)
	if len(again) != 0 || lostAgain {
		t.Errorf("%s: a second Drain(%d) = %v, %v", what, who, again, lostAgain)
	}
	checkEvents(t, what+", behind a second Drain", got, want)
}

// checkWatches holds whom a client watches, of all names, against whom it should.
func checkWatches(t *testing.T, what string, f *feed.Feed, who int, want ...string) {
	t.Helper()
	for _, user := range names {
		if got := f.Watching(who, user); got != slices.Contains(want, user) {
			t.Errorf("%s: Watching(%d, %q) = %v", what, who, user, got)
		}
	}
	if got := f.Count(who); got != len(want) {
		t.Errorf("%s: Count(%d) = %d, not %d", what, who, got, len(want))
	}
}

// 9.1, 9.2: the document's example.
func TestExample(t *testing.T) {
	f := watched(1, 2, "ann")
	tell(t, f, 1, change("ann", 1), change("ann", 2))
	checkDrain(t, "in one call", f, 2, true, event(change("ann", 1), 1))
	tell(t, f, 2, change("ann", 1))
	tell(t, f, 3, change("ann", 2))
	checkDrain(t, "in two calls", f, 2, true, event(change("ann", 1), 2))
}

// 9.1
func TestNewIsEmpty(t *testing.T) {
	for _, room := range []int{math.MinInt, -1, 0, 1, 2, 16, math.MaxInt} {
		f := feed.New(room)
		if f == nil {
			t.Fatalf("New(%d) = nil", room)
		}
		for _, who := range slices.Concat(clients, strangers) {
			checkWatches(t, "new", f, who)
			checkDrain(t, "new", f, who, false)
		}
		for _, user := range names {
			tell(t, f, 1, change(user, 1))
		}
		for _, who := range slices.Concat(clients, strangers) {
			checkDrain(t, "new, told", f, who, false)
		}
	}
}

// 9.1: each client watches its own users alone.
func TestWatchIsOfOneClient(t *testing.T) {
	for _, who := range clients {
		f := feed.New(2)
		for i, user := range names {
			f.Watch(who, user)
			for _, other := range slices.Concat(clients, strangers) {
				if other == who {
					checkWatches(t, "watched", f, other, names[:i+1]...)
				} else {
					checkWatches(t, "watched by another", f, other)
				}
			}
		}
		for i, user := range names {
			f.Unwatch(who, user)
			checkWatches(t, "unwatched", f, who, names[i+1:]...)
		}
	}
}

// 9.1: an Unwatch of one client leaves the others watching.
func TestUnwatchIsOfOneClient(t *testing.T) {
	for _, who := range clients {
		f := feed.New(2)
		for _, other := range clients {
			f.Watch(other, "ann")
			f.Watch(other, "an")
		}
		f.Unwatch(who, "ann")
		for _, other := range clients {
			if other == who {
				checkWatches(t, "unwatched", f, other, "an")
			} else {
				checkWatches(t, "unwatched by another", f, other, "an", "ann")
			}
		}
	}
}

// 9.1: twice is as once; who isn't watched, or isn't any more, is left as it is.
func TestWatchAndUnwatchAgain(t *testing.T) {
	for _, user := range names {
		f := feed.New(2)
		f.Unwatch(3, user)
		checkWatches(t, "not watched ahead of an Unwatch", f, 3)
		f.Watch(3, user)
		checkWatches(t, "watched", f, 3, user)
		f.Watch(3, user)
		checkWatches(t, "watched twice", f, 3, user)
		f.Unwatch(3, user+"x")
		checkWatches(t, "another one not watched", f, 3, user)
		f.Unwatch(3, user)
		checkWatches(t, "unwatched behind twice", f, 3)
		f.Unwatch(3, user)
		checkWatches(t, "unwatched twice", f, 3)
		f.Watch(3, user)
		checkWatches(t, "watched again", f, 3, user)
	}
}

// 9.1: what is asked, told or drained changes nobody's watching.
func TestAskingChangesNothing(t *testing.T) {
	f := watched(1, 0, "ann", "")
	for range 3 {
		f.Watching(0, "an")
		f.Watching(1, "ann")
		f.Count(0)
		tell(t, f, 1, change("ann", 1), change("an", 2), change("", 3))
		f.Drain(0)
		f.Drain(1)
		checkWatches(t, "asked", f, 0, "ann", "")
		checkWatches(t, "asked", f, 1)
	}
}

// 9.1: the chapter sets no bound to how many a client watches.
func TestManyWatched(t *testing.T) {
	const n = 3000
	name := func(i int) string { return string([]byte{byte(i), byte(i >> 8)}) }
	f := feed.New(n)
	var want []api.Event
	for i := range n {
		f.Watch(7, name(i*7%n))
		if got := f.Count(7); got != i+1 {
			t.Fatalf("Count = %d behind %d", got, i+1)
		}
	}
	for i := range n {
		c := change(name(i), i)
		tell(t, f, uint64(i), c)
		want = append(want, event(c, uint64(i)))
	}
	checkDrain(t, "of many", f, 7, false, want...)
	for i := range n {
		f.Unwatch(7, name(i))
		if f.Watching(7, name(i)) || f.Count(7) != n-i-1 {
			t.Fatalf("Watching = %v, Count = %d behind %d Unwatches", f.Watching(7, name(i)), f.Count(7), i+1)
		}
	}
}

// 9.1, 9.2: of who is no client nothing is done, and nothing answered; who is one isn't touched by it.
func TestStrangers(t *testing.T) {
	for _, who := range strangers {
		f := feed.New(2)
		for _, c := range clients {
			f.Watch(c, "ann")
		}
		tell(t, f, 1, change("ann", 1))
		f.Watch(who, "ann")
		f.Watch(who, "bob")
		f.Unwatch(who, "ann")
		checkWatches(t, "no client", f, who)
		if f.Watching(who, "bob") {
			t.Errorf("Watching(%d) behind a Watch", who)
		}
		tell(t, f, 2, change("bob", 2), change("ann", 3))
		checkDrain(t, "no client", f, who, false)
		for _, c := range clients {
			checkWatches(t, "a client beside one that is none", f, c, "ann")
			checkDrain(t, "a client beside one that is none", f, c, false, event(change("ann", 1), 1), event(change("ann", 3), 2))
		}
	}
}

// 9.1: two feeds are apart.
func TestFeedsAreApart(t *testing.T) {
	f, g := feed.New(2), feed.New(1)
	f.Watch(0, "ann")
	checkWatches(t, "another feed", g, 0)
	g.Watch(0, "ann")
	g.Watch(0, "an")
	checkWatches(t, "the feed", f, 0, "ann")
	tell(t, f, 1, change("ann", 1), change("ann", 2))
	checkDrain(t, "another feed", g, 0, false)
	tell(t, g, 2, change("ann", 3), change("ann", 4))
	checkDrain(t, "another feed, told", g, 0, true, event(change("ann", 3), 2))
	checkDrain(t, "the feed", f, 0, false, event(change("ann", 1), 1), event(change("ann", 2), 1))
}
