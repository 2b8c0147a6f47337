package book_test

import (
	"cmp"
	"maps"
	"slices"
	"testing"

	"doorman/api"
	"doorman/book"
)

// plain is a book in the plainest way: sessions by users and ids, and what was told, in no order.
type plain struct {
	sessions map[string]map[int]api.Session
	told     map[string]api.Presence
}

func newPlain() plain {
	return plain{map[string]map[int]api.Session{}, map[string]api.Presence{}}
}

// presence is the best of those that live, by a sorting.
func (p plain) presence(user string, now uint64) api.Presence {
	var live []api.Session
	for _, s := range p.sessions[user] {
		if s.Until > now {
			live = append(live, s)
		}
	}
	if len(live) == 0 {
		return nobody
	}
	slices.SortFunc(live, func(a, b api.Session) int {
		return cmp.Or(cmp.Compare(b.Prio, a.Prio), cmp.Compare(a.Id, b.Id))
	})
	return pres(live[0].Status, live[0].Prio, len(live))
}

func (p plain) purge(user string, now uint64) {
	maps.DeleteFunc(p.sessions[user], func(_ int, s api.Session) bool { return s.Until <= now })
}

func (p plain) tell(user string, now uint64) []book.Change {
	old, is := p.told[user], p.presence(user, now)
	p.told[user] = is
	if len(p.sessions[user]) == 0 {
		delete(p.sessions, user)
		delete(p.told, user)
	}
	if old == is {
		return nil
	}
	return []book.Change{{User: user, Old: old, New: is}}
}

func (p plain) write(x api.Op, now uint64, most int) ([]book.Change, api.Errno) {
	p.purge(x.User, now)
	err := p.put(x, now, most)
	return p.tell(x.User, now), err
}

func (p plain) put(x api.Op, now uint64, most int) api.Errno {
	l := p.sessions[x.User]
	s, there := l[x.Id]
	switch {
	case x.Kind == api.Set && !there && len(l) >= most:
		return api.ErrFull
	case x.Kind == api.Set:
		if l == nil {
			p.sessions[x.User] = map[int]api.Session{}
		}
		p.sessions[x.User][x.Id] = ses(x.Id, x.Status, x.Prio, now+x.Ttl)
	case x.Kind != api.Beat && x.Kind != api.Clear:
	case !there:
		return api.ErrNone
	case x.Kind == api.Clear:
		delete(l, x.Id)
	default:
		s.Until = max(s.Until, now+x.Ttl)
		l[x.Id] = s
	}
	return api.OK
}

func (p plain) sweep(now uint64) []book.Change {
	var all []book.Change
	for _, user := range slices.Sorted(maps.Keys(p.sessions)) {
		p.purge(user, now)
		all = append(all, p.tell(user, now)...)
	}
	return all
}

func (p plain) entries() entries {
	m := entries{}
	for user, l := range p.sessions {
		e := book.Entry{Told: p.told[user]}
		for _, id := range slices.Sorted(maps.Keys(l)) {
			e.Sessions = append(e.Sessions, l[id])
		}
		m[user] = e
	}
	return m
}

func (p plain) stored() int {
	n := 0
	for _, l := range p.sessions {
		n += len(l)
	}
	return n
}

// checkChain sees that each change is of a presence that is another one, from what was told last: said has, of each user, what that was.
func checkChain(t *testing.T, said map[string]api.Presence, changes []book.Change) {
	t.Helper()
	for _, c := range changes {
		if c.Old == c.New {
			t.Errorf("a change of %q is none: %v", c.User, c)
		}
		if c.Old != said[c.User] {
			t.Errorf("a change of %q is from %v, but told last was %v", c.User, c.Old, said[c.User])
		}
		said[c.User] = c.New
	}
}

// checkUnseen sees that a Sweep at a time changes no presence, then or later; that no session is left that doesn't live; and that behind it what was told of each user is what is.
func checkUnseen(t *testing.T, b book.Book, now uint64, later []uint64) {
	t.Helper()
	swept, changes := sweep(t, b, now)
	said := map[string]api.Presence{}
	for user, e := range b.All() {
		said[user] = e.Told
		for _, at := range append(later, now, top) {
			if at >= now {
				checkPresence(t, swept, user, at, book.Presence(b, user, at))
			}
		}
	}
	checkChain(t, said, changes)
	for user, is := range said {
		if got := book.Presence(swept, user, now); is != got {
			t.Errorf("Sweep at %d: told last of %q is %v, but it is %v", now, user, is, got)
		}
	}
	for user, e := range swept.All() {
		if len(e.Sessions) == 0 || slices.ContainsFunc(e.Sessions, func(s api.Session) bool { return s.Until <= now }) {
			t.Errorf("Sweep at %d leaves %q with %v", now, user, e.Sessions)
		}
	}
}

// 8.3: of all books of two users with up to two sessions each, told rightly or not, at all times.
func TestSweepIsUnseen(t *testing.T) {
	var some []book.Entry
	times := []uint64{0, 1, 2, 3, 4}
	for _, told := range []api.Presence{nobody, pres(1, 0, 1), pres(2, 1, 1), pres(2, 1, 2)} {
		some = append(some, entry(told))
		for _, a := range times[1:4] {
			some = append(some, entry(told, ses(1, 1, 0, a)), entry(told, ses(2, 2, 1, a)))
			for _, b := range times[1:4] {
				some = append(some, entry(told, ses(1, 1, 0, a), ses(2, 2, 1, b)))
			}
		}
	}
	for _, a := range some {
		for _, b := range some {
			m := entries{"ann": a, "bob": b}.book()
			for _, now := range times[:4] {
				checkUnseen(t, m, now, times)
			}
		}
	}
}

// 8.1, 8.2, 8.3: long scripts of writes and sweeps, held against the plain book; all books on the way stay as they were.
func TestScripts(t *testing.T) {
	names := []string{"ann", "b", "", "bob", "B", "zoe"}
	for _, most := range []int{0, 1, 2, 3, 8} {
		n := uint32(most) + 1
		roll := func(below uint32) int {
			n = n*1664525 + 1013904223
			return int((n >> 8) % below)
		}
		var b book.Book
		p := newPlain()
		said := map[string]api.Presence{}
		now := uint64(0)
		var made []book.Book
		var held []entries
		for range 1500 {
			now += uint64(roll(3))
			var changes, want []book.Change
			var err, wantErr api.Errno
			if roll(12) == 0 {
				checkUnseen(t, b, now, []uint64{now + 1, now + 2, now + 5, now + 9})
				b, changes = sweep(t, b, now)
				want = p.sweep(now)
			} else {
				kinds := []int{api.Set, api.Set, api.Set, api.Beat, api.Beat, api.Clear, api.Query}
				x := api.Op{Kind: kinds[roll(7)], User: names[roll(6)], Id: roll(5), Status: 1 + roll(3), Prio: roll(3), Ttl: uint64(roll(30))}
				b, changes, err = write(t, b, x, now, most)
				want, wantErr = p.write(x, now, most)
			}
			if err != wantErr {
				t.Errorf("of a script: Write = %d, not %d", err, wantErr)
			}
			checkChanges(t, "of a script", changes, want...)
			checkChain(t, said, changes)
			checkBook(t, "of a script", b, p.entries())
			checkStored(t, b, p.stored())
			user, at := names[roll(6)], now+uint64(roll(9))
			checkPresence(t, b, user, at, p.presence(user, at))
			made, held = append(made, b), append(held, memory(b))
		}
		for i, old := range made {
			if !maps.EqualFunc(memory(old), held[i], equal) {
				t.Fatalf("the book %d of a script is changed to %v, from %v", i, memory(old), held[i])
			}
		}
	}
}

// 8.1, 8.3: all scripts of four calls at times that go on by one: each change is of another presence, from what was told last, to what is.
func TestAllSmallScripts(t *testing.T) {
	ops := []api.Op{
		set("ann", 1, 1, 0, 2), set("ann", 1, 1, 0, 0), set("ann", 2, 1, 0, 1), set("ann", 2, 2, 1, 3), set("bob", 1, 1, 0, 2),
		beat("ann", 1, 3), beat("ann", 2, 1), unset("ann", 1), unset("ann", 2), {Kind: api.Query, User: "ann"}, {Kind: api.Close, User: "bob"},
	}
	var run func(b book.Book, now uint64, said map[string]api.Presence)
	run = func(b book.Book, now uint64, said map[string]api.Presence) {
		for i := range len(ops) + 1 {
			var changes []book.Change
			var next book.Book
			if i < len(ops) {
				next, changes, _ = book.Write(b, ops[i], now, 2)
			} else {
				next, changes = book.Sweep(b, now)
			}
			saidNow := maps.Clone(said)
			checkChain(t, saidNow, changes)
			for user, e := range next.All() {
				if e.Told != saidNow[user] || len(e.Sessions) == 0 {
					t.Errorf("the entry of %q is %v, and told last was %v", user, e, saidNow[user])
				}
			}
			if i < len(ops) && book.Presence(next, ops[i].User, now) != saidNow[ops[i].User] {
				t.Errorf("behind a write told last isn't what is: %v", saidNow)
			}
			if now < 4 {
				run(next, now+1, saidNow)
			}
		}
	}
	run(book.Book{}, 1, map[string]api.Presence{})
}

// 8.2, 8.3 and the rules that hold everywhere: entries that aren't of a user's sessions make no call panic, and aren't changed; Sweep changes no presence of theirs.
func TestAnyEntries(t *testing.T) {
	b := entries{
		"falling": entry(pres(1, 1, 1), ses(9, 1, 1, 30), ses(5, 2, 1, 20), ses(2, 3, 1, 10)),
		"twice":   entry(pres(-1, -1, -1), ses(5, 1, 1, 10), ses(5, 2, 1, 20), ses(5, 3, 1, 30)),
		"wrong":   entry(pres(0, 0, -5), ses(-1, -2, -3, 20), ses(1<<40, 77, -9, 20)),
		"zero":    entry(nobody, make([]api.Session, 20)...),
		"empty":   entry(pres(4, 4, 4)),
	}.book()
	for _, now := range []uint64{0, 9, 10, 20, 30, top} {
		checkUnseen(t, b, now, []uint64{0, 9, 10, 11, 20, 30})
		for _, user := range append(b.Keys(), "other") {
			for _, id := range []int{-1, 0, 2, 5, 9, 1 << 40} {
				for _, x := range []api.Op{set(user, id, 1, 1, 5), beat(user, id, top), unset(user, id), {Kind: -1, User: user}} {
					write(t, b, x, now, 2)
					write(t, b, x, now, -1)
				}
			}
		}
	}
}
