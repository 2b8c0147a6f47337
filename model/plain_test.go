package model_test

import (
	"hash/fnv"
	"math"
	"slices"

	"doorman/api"
)

const top = math.MaxUint64

// queue is what a client was told in a stripe, and whether something was lost.
type queue struct {
	events []api.Event
	lost   bool
}

// plain is a table as the document tells it, of plain maps and lists, without the layers: the tables' answers are held against its.
type plain struct {
	c       api.Config
	time    api.Time
	kept    map[string][]api.Session
	told    map[string]api.Presence
	watched [8]map[string]bool
	queues  [8][8]queue // by stripe, then by client
}

func newPlain(c api.Config) *plain {
	p := &plain{c: c, time: api.Time{Now: c.Start}, kept: map[string][]api.Session{}, told: map[string]api.Presence{}}
	for who := range p.watched {
		p.watched[who] = map[string]bool{}
	}
	return p
}

// stripeOf answers in which of so many stripes a user is, by the library's own FNV-1a.
func stripeOf(user string, n int) int {
	h := fnv.New64a()
	h.Write([]byte(user))
	return int(h.Sum64() % uint64(n))
}

// until answers when something ends that lasts so long from now on.
func (p *plain) until(ttl uint64) uint64 {
	if ttl > top-p.time.Now {
		return top
	}
	return p.time.Now + ttl
}

func (p *plain) tick(by uint64) { p.time.Now = p.until(by) }

// living are the user's sessions that live now.
func (p *plain) living(user string) []api.Session {
	var l []api.Session
	for _, s := range p.kept[user] {
		if s.Until > p.time.Now {
			l = append(l, s)
		}
	}
	return l
}

func (p *plain) presence(user string) api.Presence {
	var is api.Presence
	best := api.Session{Id: math.MaxInt, Prio: -1}
	for _, s := range p.living(user) {
		if s.Prio > best.Prio || s.Prio == best.Prio && s.Id < best.Id {
			best = s
			is.Status, is.Prio = s.Status, s.Prio
		}
		is.Live++
	}
	return is
}

func (p *plain) stored() int {
	n := 0
	for _, l := range p.kept {
		n += len(l)
	}
	return n
}

// settle tells whoever watches a user, if another presence was told last.
func (p *plain) settle(user string) {
	is, was := p.presence(user), p.told[user]
	if is == was {
		return
	}
	p.told[user] = is
	for who := range p.watched {
		if !p.watched[who][user] {
			continue
		}
		q := &p.queues[stripeOf(user, p.c.Stripes)][who]
		if len(q.events) == p.c.Queue {
			q.lost = true
			continue
		}
		q.events = append(q.events, api.Event{User: user, Old: was, New: is, Seq: p.time.Seq})
	}
}

func (p *plain) sweep(s int) {
	if s < 0 || s >= p.c.Stripes {
		return
	}
	p.time.Seq++
	var users []string
	for user := range p.kept {
		if stripeOf(user, p.c.Stripes) == s {
			users = append(users, user)
		}
	}
	slices.Sort(users)
	for _, user := range users {
		p.kept[user] = p.living(user)
		p.settle(user)
	}
}

func (p *plain) write(x api.Op) api.Errno {
	p.time.Seq++
	if p.time.Closed {
		return api.ErrClosed
	}
	l := p.living(x.User)
	at := slices.IndexFunc(l, func(s api.Session) bool { return s.Id == x.Id })
	err := api.OK
	switch {
	case x.Kind == api.Set && at >= 0:
		l[at] = api.Session{Id: x.Id, Status: x.Status, Prio: x.Prio, Until: p.until(x.Ttl)}
	case x.Kind == api.Set && len(l) == p.c.Sessions:
		err = api.ErrFull
	case x.Kind == api.Set:
		l = append(l, api.Session{Id: x.Id, Status: x.Status, Prio: x.Prio, Until: p.until(x.Ttl)})
	case at < 0:
		err = api.ErrNone
	case x.Kind == api.Beat:
		l[at].Until = max(l[at].Until, p.until(x.Ttl))
	default:
		l = slices.Delete(l, at, at+1)
	}
	p.kept[x.User] = l
	p.settle(x.User)
	return err
}

// poll puts all that a client was told in order by the numbers, then by the stripes.
func (p *plain) poll(who int) api.Reply {
	var r api.Reply
	for s := range p.queues {
		r.Events = append(r.Events, p.queues[s][who].events...)
		r.Lost = r.Lost || p.queues[s][who].lost
		p.queues[s][who] = queue{}
	}
	slices.SortStableFunc(r.Events, func(a, b api.Event) int {
		switch {
		case a.Seq < b.Seq:
			return -1
		case a.Seq > b.Seq:
			return 1
		}
		return 0
	})
	return r
}

func (p *plain) do(who int, x api.Op) api.Reply {
	named := func(user string) bool { return len(user) > 0 && len(user) < 17 }
	id := x.Id >= 0 && x.Id < 256
	bad, closed := api.Reply{Err: api.ErrArg}, api.Reply{Err: api.ErrClosed}
	if who < 0 || who > 7 {
		return bad
	}
	switch x.Kind {
	case 1, 2, 3:
		if !named(x.User) || !id || x.Kind == 1 && (x.Status < 1 || x.Status > 9 || x.Prio < 0 || x.Prio > 9) {
			return bad
		}
		return api.Reply{Err: p.write(x)}
	case 8:
		return p.poll(who)
	case 4, 6, 7:
		if !named(x.User) {
			return bad
		}
	case 5:
		if len(x.Users) < 1 || len(x.Users) > 8 {
			return bad
		}
		for _, user := range x.Users {
			if !named(user) {
				return bad
			}
		}
	case 9:
	default:
		return bad
	}
	if p.time.Closed {
		return closed
	}
	var r api.Reply
	switch x.Kind {
	case 4:
		r.Values = []api.Presence{p.presence(x.User)}
	case 5:
		for _, user := range x.Users {
			r.Values = append(r.Values, p.presence(user))
		}
	case 6:
		if !p.watched[who][x.User] && len(p.watched[who]) >= p.c.Watches {
			r.Err = api.ErrWatch
		} else {
			p.watched[who][x.User] = true
		}
	case 7:
		delete(p.watched[who], x.User)
	case 9:
		p.time.Closed = true
	}
	return r
}
