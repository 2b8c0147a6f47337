package feed_test

import (
	"math"
	"slices"
	"testing"

	"doorman/api"
	"doorman/book"
	"doorman/feed"
)

// 9.2: an event has the change's user and presences, each in its field, and the number as it was handed in.
func TestEventsFields(t *testing.T) {
	changes := []book.Change{
		{},
		{User: "ann"},
		{User: "ann", Old: pres(1, 2, 3)},
		{User: "ann", New: pres(1, 2, 3)},
		{User: "ann", Old: pres(4, 5, 6), New: pres(4, 5, 6)},
		{User: "ann\x00", Old: pres(-1, math.MinInt, 7), New: pres(math.MaxInt, 0, -9)},
	}
	for _, c := range changes {
		for _, seq := range []uint64{0, 1, 2, 1 << 31, 1 << 32, 1 << 63, top - 1, top} {
			f := watched(3, 5, c.User)
			tell(t, f, seq, c)
			want := api.Event{User: c.User, Old: c.Old, New: c.New, Seq: seq}
			checkDrain(t, "fields", f, 5, false, want)
		}
	}
}

// 9.2: all changes of one call have its number, and stand in its order; numbers of later calls needn't rise.
func TestTellInOrder(t *testing.T) {
	f := watched(16, 1, "ann", "bob", "")
	a, b, c, d := change("bob", 1), change("ann", 2), change("bob", 3), change("", 4)
	tell(t, f, 9, a, b, c, d, b)
	tell(t, f, 9, d)
	tell(t, f, 3, c, a)
	tell(t, f, 0)
	tell(t, f, top, b)
	checkDrain(t, "in order", f, 1, false,
		event(a, 9), event(b, 9), event(c, 9), event(d, 9), event(b, 9), event(d, 9), event(c, 3), event(a, 3), event(b, top))
}

// 9.2: no changes tell nothing, be the list nil, empty, or with junk behind it.
func TestTellOfNothing(t *testing.T) {
	for _, room := range []int{0, 1, 4} {
		f := watched(room, 0, "ann")
		f.Tell(nil, 1)
		f.Tell([]book.Change{}, 2)
		tell(t, f, 3)
		checkDrain(t, "nothing", f, 0, false)
	}
}

// 9.2: each set of clients that watches a user is told of it, each once; the others of nobody.
func TestTellAllWhoWatch(t *testing.T) {
	for set := range 1 << len(clients) {
		f := feed.New(4)
		for _, who := range clients {
			if set>>who&1 == 1 {
				f.Watch(who, "ann")
			}
		}
		f.Watch(6, "bob")
		tell(t, f, 1, change("ann", 1), change("bob", 2), change("zoe", 3), change("ann", 4))
		for _, who := range clients {
			var want []api.Event
			if set>>who&1 == 1 {
				want = []api.Event{event(change("ann", 1), 1), event(change("ann", 4), 1)}
			}
			if who == 6 {
				want = slices.Insert(want, len(want)/2, event(change("bob", 2), 1))
			}
			checkDrain(t, "of all sets", f, who, false, want...)
		}
	}
}

// 9.2: a user is watched by its whole name, byte by byte.
func TestTellByWholeName(t *testing.T) {
	for _, user := range names {
		f := watched(len(names)+1, 4, user)
		for i, other := range names {
			tell(t, f, uint64(i), change(other, i))
		}
		i := slices.Index(names, user)
		checkDrain(t, "a name", f, 4, false, event(change(user, i), uint64(i)))
	}
}

// 9.2: up to the room events are kept, and what comes behind is lost; just full, nothing is.
func TestRoom(t *testing.T) {
	for _, room := range []int{math.MinInt, -16, -1, 0, 1, 2, 3, 16, 40} {
		for n := range 45 {
			f := watched(room, 7, "ann", "bob")
			var want []api.Event
			for i := range n {
				c := change([]string{"ann", "bob"}[i%2], i)
				tell(t, f, uint64(i), c)
				if i < room {
					want = append(want, event(c, uint64(i)))
				}
			}
			checkDrain(t, "room", f, 7, n > max(room, 0), want...)
		}
	}
}

// 9.2: the same within one call.
func TestRoomWithinOneCall(t *testing.T) {
	for _, room := range []int{-1, 0, 1, 3} {
		f := watched(room, 2, "ann")
		l := []book.Change{change("ann", 1), change("bob", 2), change("ann", 3), change("bob", 4), change("ann", 5), change("bob", 6)}
		tell(t, f, 8, l...)
		fits := []api.Event{event(l[0], 8), event(l[2], 8), event(l[4], 8)}
		checkDrain(t, "one call", f, 2, room < 3, fits[:max(room, 0)]...)
	}
}

// 9.2: room for more than there can be.
func TestVastRoom(t *testing.T) {
	f := watched(math.MaxInt, 0, "ann")
	var want []api.Event
	for i := range 3000 {
		tell(t, f, uint64(i), change("ann", i))
		want = append(want, event(change("ann", i), uint64(i)))
	}
	checkDrain(t, "vast", f, 0, false, want...)
}

// 9.2: each client has room of its own, and loses for itself; what it doesn't watch takes no room, and isn't lost.
func TestRoomIsOfOneClient(t *testing.T) {
	f := watched(2, 0, "ann")
	f.Watch(1, "ann")
	f.Watch(1, "bob")
	f.Watch(2, "bob")
	f.Watch(3, "zoe")
	tell(t, f, 1, change("bob", 1), change("bob", 2), change("ann", 3))
	tell(t, f, 2, change("ann", 4))
	checkDrain(t, "watches ann", f, 0, false, event(change("ann", 3), 1), event(change("ann", 4), 2))
	checkDrain(t, "watches both", f, 1, true, event(change("bob", 1), 1), event(change("bob", 2), 1))
	checkDrain(t, "watches bob", f, 2, false, event(change("bob", 1), 1), event(change("bob", 2), 1))
	checkDrain(t, "watches zoe", f, 3, false)
}

// 9.2: a Drain makes room again, of that client alone, and lets what was lost be forgotten.
func TestDrainMakesRoom(t *testing.T) {
	f := watched(2, 0, "ann")
	f.Watch(1, "ann")
	for i := range 3 {
		tell(t, f, uint64(i), change("ann", i))
	}
	first, second := event(change("ann", 0), 0), event(change("ann", 1), 1)
	checkDrain(t, "full", f, 0, true, first, second)
	tell(t, f, 8, change("ann", 8))
	checkDrain(t, "drained", f, 0, false, event(change("ann", 8), 8))
	checkDrain(t, "not drained", f, 1, true, first, second)
	for i := range 3 {
		tell(t, f, uint64(i), change("ann", i))
		checkDrain(t, "one by one", f, 1, false, event(change("ann", i), uint64(i)))
	}
	checkDrain(t, "told thrice", f, 0, true, first, second)
}

// 9.2: what came ahead of an Unwatch is drained behind it, and what was lost is told; of a client that watches nobody any more too.
func TestDrainBehindUnwatch(t *testing.T) {
	f := watched(2, 3, "ann", "bob")
	tell(t, f, 1, change("ann", 1), change("bob", 2))
	f.Unwatch(3, "ann")
	f.Unwatch(3, "bob")
	checkWatches(t, "unwatched", f, 3)
	tell(t, f, 2, change("ann", 3), change("bob", 4))
	a, b := event(change("ann", 1), 1), event(change("bob", 2), 1)
	checkDrain(t, "unwatched", f, 3, false, a, b)
	f.Watch(3, "ann")
	f.Watch(3, "bob")
	tell(t, f, 1, change("ann", 1), change("bob", 2), change("ann", 5))
	f.Unwatch(3, "ann")
	f.Unwatch(3, "bob")
	checkDrain(t, "unwatched, and lost", f, 3, true, a, b)
	f.Watch(3, "ann")
	tell(t, f, 1, change("ann", 1))
	f.Unwatch(3, "ann")
	f.Watch(3, "ann")
	f.Watch(3, "ann")
	tell(t, f, 6, change("ann", 6))
	checkDrain(t, "watched again", f, 3, false, a, event(change("ann", 6), 6))
}

// 9.2: what Drain answers shares no memory with the feed, or with other answers: it stays behind later calls, and may be written to.
func TestDrainedIsApart(t *testing.T) {
	f := watched(3, 0, "ann")
	f.Watch(1, "ann")
	var answers, want [][]api.Event
	for i := range 20 {
		for k := range i%5 + 1 {
			tell(t, f, uint64(i), change("ann", 10*i+k))
		}
		for who := range 2 {
			l, _ := f.Drain(who)
			answers, want = append(answers, l), append(want, slices.Clone(l))
		}
	}
	for i := range answers {
		for k := i; k < len(answers); k++ {
			checkEvents(t, "behind later calls", answers[k], want[k])
		}
		scribble(answers[i], junkEvent)
	}
	tell(t, f, 1, change("ann", 1))
	l, _ := f.Drain(0)
	scribble(l, junkEvent)
	checkDrain(t, "behind a scribbling", f, 1, false, event(change("ann", 1), 1))
	tell(t, f, 2, change("ann", 2))
	checkDrain(t, "told behind a scribbling", f, 0, false, event(change("ann", 2), 2))
}
