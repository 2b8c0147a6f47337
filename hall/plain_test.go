package hall_test

import (
	"math"

	"doorman/api"
	"doorman/book"
	"doorman/feed"
)

const top = math.MaxUint64

// plain is a table as the chapter tells it, with the chapter's numbers: the tables' answers and acts are held against its.
type plain struct {
	c       api.Config
	time    api.Time
	stripes []plainStripe
	acts    []api.Act
}

// plainStripe is what there is of a stripe; the owner of a free lock is -1.
type plainStripe struct {
	owner          int
	epoch          uint64
	published, own book.Book
	feed           *feed.Feed
}

func newPlain(c api.Config) *plain {
	p := &plain{c: c, time: api.Time{Now: c.Start}}
	for range c.Stripes {
		p.stripes = append(p.stripes, plainStripe{owner: -1, feed: feed.New(c.Queue)})
	}
	return p
}

// act keeps what was done: 1 Read, 2 Write, 3 Load, 4 Store, 5 Lock, 6 Unlock.
func (p *plain) act(who, kind, place int) {
	p.acts = append(p.acts, api.Act{Who: who, Kind: kind, Place: place})
}

func (p *plain) Look(who int) api.Time {
	p.act(who, 3, 0)
	return p.time
}

func (p *plain) Take(who int) api.Time {
	p.act(who, 4, 0)
	if p.time.Seq < top {
		p.time.Seq++
	}
	return p.time
}

func (p *plain) Pass(who int, by uint64) {
	p.act(who, 4, 0)
	p.time.Now += min(by, top-p.time.Now)
}

func (p *plain) Shut(who int) bool {
	p.act(who, 4, 0)
	was := p.time.Closed
	p.time.Closed = true
	return !was
}

func (p *plain) Lock(who, s int) bool {
	if p.stripes[s].owner != -1 {
		return false
	}
	p.act(who, 5, 4*s+1)
	p.stripes[s].owner = who
	return true
}

func (p *plain) Unlock(who, s int) bool {
	if p.stripes[s].owner != who {
		return false
	}
	p.act(who, 6, 4*s+1)
	p.stripes[s].owner = -1
	return true
}

func (p *plain) Epoch(who, s int) uint64 {
	p.act(who, 3, 4*s+2)
	return p.stripes[s].epoch
}

func (p *plain) Begin(who, s int) {
	p.act(who, 4, 4*s+2)
	if e := p.stripes[s].epoch; e%2 == 0 && e < p.c.Epochs/2*2 {
		p.stripes[s].epoch = e + 1
	}
}

func (p *plain) End(who, s int) {
	p.act(who, 4, 4*s+2)
	if e := p.stripes[s].epoch; e%2 == 1 {
		p.stripes[s].epoch = e + 1
	}
}

func (p *plain) Snap(who, s int) book.Book {
	p.act(who, 3, 4*s+3)
	return p.stripes[s].published
}

func (p *plain) Publish(who, s int) {
	p.act(who, 1, 4*s+4)
	p.act(who, 4, 4*s+3)
	p.stripes[s].published = p.stripes[s].own
}

func (p *plain) Write(who, s int, x api.Op, t api.Time) api.Errno {
	p.act(who, 2, 4*s+4)
	if t.Closed {
		return api.ErrClosed
	}
	b, changes, err := book.Write(p.stripes[s].own, x, t.Now, p.c.Sessions)
	p.stripes[s].own = b
	p.stripes[s].feed.Tell(changes, t.Seq)
	return err
}

func (p *plain) Sweep(who, s int, t api.Time) {
	p.act(who, 2, 4*s+4)
	b, changes := book.Sweep(p.stripes[s].own, t.Now)
	p.stripes[s].own = b
	p.stripes[s].feed.Tell(changes, t.Seq)
}

func (p *plain) Read(who, s int) book.Book {
	p.act(who, 1, 4*s+4)
	return p.stripes[s].own
}

func (p *plain) Count(who, s int, user string) (int, bool) {
	p.act(who, 1, 4*s+4)
	return p.stripes[s].feed.Count(who), p.stripes[s].feed.Watching(who, user)
}

func (p *plain) Watch(who, s int, user string, on bool) {
	p.act(who, 2, 4*s+4)
	if on {
		p.stripes[s].feed.Watch(who, user)
		return
	}
	p.stripes[s].feed.Unwatch(who, user)
}

func (p *plain) Drain(who, s int) ([]api.Event, bool) {
	p.act(who, 2, 4*s+4)
	return p.stripes[s].feed.Drain(who)
}

func (p *plain) Config() api.Config { return p.c }

func (p *plain) Now() api.Time { return p.time }

func (p *plain) Acts() []api.Act { return p.acts }

func (p *plain) Free(s int) bool { return p.stripes[s].owner == -1 }

func (p *plain) Stored() int {
	n := 0
	for _, s := range p.stripes {
		for _, user := range s.own.Keys() {
			e, _ := s.own.Get(user)
			n += len(e.Sessions)
		}
	}
	return n
}

func (p *plain) Quiet(s int) bool {
	return p.stripes[s].epoch%2 == 0 && told(p.stripes[s].own) == told(p.stripes[s].published)
}
