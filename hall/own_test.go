package hall_test

import (
	"fmt"
	"testing"

	"doorman/api"
)

// 14.3: Set, Beat and Clear of the own book; what was published stays as it is.
func TestWrite(t *testing.T) {
	b := newTable(t, sizes(3, 2, 1, 4))
	b.is("0", write(0, 1, set("ann", 7, 3, 10), at(5, 1)))
	b.is("[ann [{7 3 0 15}] {3 0 1}]", read(0, 1))
	b.is("0", write(0, 1, api.Op{Kind: api.Set, User: "ann", Id: 9, Status: 4, Prio: 2, Ttl: 1}, at(5, 2)))
	b.is("[ann [{7 3 0 15} {9 4 2 6}] {4 2 2}]", read(0, 1))
	b.is("2", write(0, 1, set("ann", 8, 3, 10), at(5, 3)))
	b.is("3", write(0, 1, op(api.Beat, "ann", 8, 10), at(5, 4)))
	b.is("3", write(0, 1, op(api.Clear, "zoe", 7, 0), at(5, 5)))
	b.is("0", write(0, 1, op(api.Beat, "ann", 9, 20), at(5, 6)))
	b.is("[ann [{7 3 0 15} {9 4 2 25}] {4 2 2}]", read(0, 1))
	b.is("0", write(0, 1, op(api.Clear, "ann", 7, 0), at(5, 7)))
	b.is("[ann [{9 4 2 25}] {4 2 1}]", read(0, 1))
	b.is("0", write(0, 1, set("bob", 0, 1, 1), at(5, 8)))
	b.is("[ann [{9 4 2 25}] {4 2 1} bob [{0 1 0 6}] {1 0 1}]", read(0, 1))
	b.is("[]", snap(0, 1))
	// Whose stripe it is isn't asked: the one that is named is written.
	b.is("[]", read(0, 0))
	b.is("[]", read(0, 2))
}

// 14.3: a user has at most Sessions sessions.
func TestWriteOfSessions(t *testing.T) {
	for most := 1; most <= 8; most++ {
		b := newTable(t, sizes(1, most, 1, 0))
		for id := range most {
			b.is("0", write(0, 0, set("ann", id, 1, 9), at(0, 1)))
		}
		b.is("2", write(0, 0, set("ann", most, 1, 9), at(0, 1)))
		b.is("0", write(0, 0, set("ann", 0, 2, 9), at(0, 1)))
		b.is("0", write(0, 0, set("bob", most, 1, 9), at(0, 1)))
	}
}

// 14.3: by a time that is Closed nothing is written, and nobody told; else it is, whether the table is closed or not.
func TestWriteOfClosed(t *testing.T) {
	b := newTable(t, sizes(2, 2, 4, 4))
	b.do(watch(3, 0, "ann", true))
	b.is("5", write(0, 0, set("ann", 1, 2, 9), closedAt(0, 1)))
	b.is("[]", read(0, 0))
	b.is("[] false", drain(3, 0))
	b.is("0", write(0, 0, set("ann", 1, 2, 9), at(0, 2)))
	b.do(shut(0))
	for _, x := range []api.Op{set("ann", 1, 3, 9), set("ann", 2, 3, 9), op(api.Beat, "ann", 1, 99), op(api.Clear, "ann", 1, 0), op(api.Clear, "zoe", 1, 0), {}, set("", -1, 99, 9)} {
		b.is("5", write(0, 0, x, closedAt(50, 3)))
	}
	b.is("[ann [{1 2 0 9}] {2 0 1}]", read(0, 0))
	b.is("[{ann {0 0 0} {2 0 1} 2}] false", drain(3, 0))
	// Taken ahead of the Close: it is written yet.
	b.is("0", write(0, 0, set("ann", 1, 3, 9), at(1, 4)))
	b.is("[{ann {2 0 1} {3 0 1} 4}] false", drain(3, 0))
}

// 14.3: it is written by the time that is handed in, whatever the table's is.
func TestWriteByATime(t *testing.T) {
	b := newTable(t, sizes(1, 1, 4, 4))
	b.do(watch(0, 0, "ann", true))
	b.do(pass(9, 100))
	b.do(take(0))
	b.is("0", write(0, 0, set("ann", 1, 2, 5), at(3, 77)))
	b.is("[ann [{1 2 0 8}] {2 0 1}]", read(0, 0))
	b.is("2", write(0, 0, set("ann", 2, 3, 5), at(7, top)))
	b.is("0", write(0, 0, set("ann", 2, 3, 5), at(8, 0)))
	b.is("[ann [{2 3 0 13}] {3 0 1}]", read(0, 0))
	b.is("3", write(0, 0, op(api.Beat, "ann", 2, 9), at(13, 1)))
	b.is("[{ann {0 0 0} {2 0 1} 77} {ann {2 0 1} {3 0 1} 0} {ann {3 0 1} {0 0 0} 1}] false", drain(0, 0))
}

// 14.3: the ends of time: a session lives until 2^64 - 1 at most.
func TestWriteAtTheEnd(t *testing.T) {
	b := newTable(t, sizes(1, 1, 4, 4))
	b.is("0", write(0, 0, set("ann", 1, 2, 9), at(top-8, top)))
	b.is("[ann [{1 2 0 18446744073709551615}] {2 0 1}]", read(0, 0))
	b.is("0", write(0, 0, set("ann", 1, 2, top), at(top-1, top)))
	b.is("[ann [{1 2 0 18446744073709551615}] {2 0 1}]", read(0, 0))
	b.is("0", write(0, 0, set("bob", 1, 2, top), at(top, top)))
	b.do(sweep(8, 0, at(top, top)))
	b.is("[]", read(0, 0))
}

// 14.3: changes are told beside an error, too.
func TestWriteTellsBesideAnError(t *testing.T) {
	b := newTable(t, sizes(2, 2, 4, 4))
	b.do(watch(6, 1, "ann", true))
	b.do(write(0, 1, set("ann", 1, 2, 5), at(0, 1)))
	b.do(write(0, 1, set("ann", 2, 2, 9), at(0, 2)))
	b.is("3", write(0, 1, op(api.Clear, "ann", 1, 0), at(5, 3)))
	b.is("3", write(0, 1, op(api.Beat, "ann", 2, 1), at(9, 4)))
	b.is("[]", read(0, 1))
	b.is("[{ann {0 0 0} {2 0 1} 1} {ann {2 0 1} {2 0 2} 2} {ann {2 0 2} {2 0 1} 3} {ann {2 0 1} {0 0 0} 4}] false", drain(6, 1))
}

// 14.3: an op of another kind writes nothing; who doesn't live is left away then too. One whose fields may not be is written as it stands.
func TestWriteOfOtherKinds(t *testing.T) {
	for _, kind := range []int{-1, 0, api.Query, api.Batch, api.Watch, api.Unwatch, api.Poll, api.Close, 10} {
		b := newTable(t, sizes(1, 2, 4, 4))
		b.do(watch(0, 0, "ann", true))
		x := set("ann", 1, 2, 5)
		b.do(write(0, 0, x, at(0, 1)))
		x.Kind, x.Status = kind, 3
		b.is("0", write(0, 0, x, at(4, 2)))
		b.is("[ann [{1 2 0 5}] {2 0 1}]", read(0, 0))
		b.is("0", write(0, 0, x, at(5, 3)))
		b.is("[]", read(0, 0))
		b.is("[{ann {0 0 0} {2 0 1} 1} {ann {2 0 1} {0 0 0} 3}] false", drain(0, 0))
	}
	b := newTable(t, sizes(1, 1, 1, 0))
	b.is("0", write(0, 0, set("", -3, 99, 5), at(0, 1)))
	b.is("[ [{-3 99 0 5}] {99 0 1}]", read(0, 0))
}

// 14.3: Sweep leaves none that doesn't live, and tells it with the number that is handed in, by rising users, be it Closed or not.
func TestSweep(t *testing.T) {
	for _, closed := range []bool{false, true} {
		b := newTable(t, sizes(2, 2, 4, 4))
		for _, user := range []string{"zoe", "ann", "bob"} {
			b.do(watch(2, 1, user, true))
		}
		b.do(write(0, 1, set("zoe", 1, 1, 5), at(0, 1)))
		b.do(write(0, 1, set("ann", 1, 2, 5), at(0, 1)))
		b.do(write(0, 1, set("ann", 2, 3, 6), at(0, 1)))
		b.do(write(0, 1, set("bob", 1, 4, 7), at(0, 1)))
		b.do(drain(2, 1))
		b.do(publish(0, 1))
		sweepAt := func(now, seq uint64) {
			t.Helper()
			b.do(sweep(8, 1, api.Time{Now: now, Seq: seq, Closed: closed}))
		}
		sweepAt(4, 2)
		b.is("[] false", drain(2, 1))
		sweepAt(5, 3)
		b.is("[ann [{2 3 0 6}] {3 0 1} bob [{1 4 0 7}] {4 0 1}]", read(0, 1))
		b.is("[{ann {2 0 2} {3 0 1} 3} {zoe {1 0 1} {0 0 0} 3}] false", drain(2, 1))
		sweepAt(99, top)
		b.is("[]", read(0, 1))
		b.is(fmt.Sprintf("[{ann {3 0 1} {0 0 0} %d} {bob {4 0 1} {0 0 0} %d}] false", uint64(top), uint64(top)), drain(2, 1))
		b.is("[ann [{1 2 0 5} {2 3 0 6}] {2 0 2} bob [{1 4 0 7}] {4 0 1} zoe [{1 1 0 5}] {1 0 1}]", snap(0, 1))
	}
}

// 14.3: whom a client watches, in a stripe: of each client and each stripe apart.
func TestWatchAndCount(t *testing.T) {
	b := newTable(t, sizes(3, 1, 1, 0))
	// How many users a client may watch isn't asked here: Watches is 1.
	for i, user := range []string{"ann", "bob", "", "ann\x00"} {
		b.do(watch(4, 1, user, true))
		b.is(fmt.Sprint(i+1, true), count(4, 1, user))
		b.do(watch(4, 1, user, true))
		b.is(fmt.Sprint(i+1, true), count(4, 1, user))
	}
	b.is("4 false", count(4, 1, "zoe"))
	for who := range 8 {
		for s := range 3 {
			if who != 4 || s != 1 {
				b.is("0 false", count(who, s, "ann"))
			}
		}
	}
	b.do(watch(4, 1, "zoe", false))
	b.is("4 true", count(4, 1, "ann"))
	b.do(watch(4, 1, "ann", false))
	b.is("3 false", count(4, 1, "ann"))
	b.is("3 true", count(4, 1, "bob"))
}

// 14.3: each client that watches a user is told, as long as it does; what it was told stays till it is drained.
func TestDrain(t *testing.T) {
	b := newTable(t, sizes(2, 1, 2, 4))
	b.do(watch(0, 0, "ann", true))
	b.do(watch(7, 0, "ann", true))
	b.do(watch(5, 1, "ann", true))
	b.do(watch(3, 0, "bob", true))
	one, two := "{ann {0 0 0} {1 0 1} 1}", "{ann {1 0 1} {2 0 1} 2}"
	b.do(write(0, 0, set("ann", 1, 1, 5), at(0, 1)))
	b.do(watch(7, 0, "ann", false))
	b.do(write(0, 0, set("ann", 1, 2, 5), at(0, 2)))
	for _, who := range []int{1, 2, 3, 4, 5, 6} {
		b.is("[] false", drain(who, 0))
	}
	b.is("[] false", drain(5, 1))
	b.is("["+one+" "+two+"] false", drain(0, 0))
	b.is("[] false", drain(0, 0))
	b.is("["+one+"] false", drain(7, 0))
	b.is("[] false", drain(7, 0))
}

// 14.3: a queue has room for Queue events, and tells whether some were lost.
func TestDrainOfFullQueues(t *testing.T) {
	for room := 1; room <= 16; room++ {
		b := newTable(t, sizes(1, 1, room, 0))
		b.do(watch(0, 0, "ann", true))
		for n := range room {
			b.do(write(0, 0, set("ann", 1, 1+n%9, 5), at(0, uint64(n))))
		}
		b.do(watch(1, 0, "ann", true))
		b.do(write(0, 0, op(api.Clear, "ann", 1, 0), at(0, 99)))
		l, lost := b.h.Drain(0, 0)
		b.p.Drain(0, 0)
		if len(l) != room || !lost || l[room-1].Seq != uint64(room-1) {
			t.Errorf("of room for %d: %v, %v", room, l, lost)
		}
		b.is(fmt.Sprintf("[{ann {%d 0 1} {0 0 0} 99}] false", 1+(room-1)%9), drain(1, 0))
		b.is("[] false", drain(0, 0))
	}
}

// 14.3: who is no client watches nobody, and is told nothing; it is an act all the same.
func TestStrangers(t *testing.T) {
	b := newTable(t, sizes(2, 1, 1, 0))
	for _, who := range strangers {
		b.acts(watch(who, 1, "ann", true), act(who, 2, 8))
		b.do(write(who, 1, set("ann", 1, 1, 5), at(0, 1)))
		b.is("0 false", count(who, 1, "ann"))
		b.is("[] false", drain(who, 1))
		b.do(write(who, 1, op(api.Clear, "ann", 1, 0), at(0, 2)))
		b.acts(watch(who, 1, "ann", false), act(who, 2, 8))
	}
	for who := range 8 {
		b.is("0 false", count(who, 1, "ann"))
		b.is("[] false", drain(who, 1))
	}
}
