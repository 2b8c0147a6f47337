package op_test

import (
	"slices"
	"strconv"
	"strings"
	"testing"

	"doorman/api"
	"doorman/model"
	"doorman/op"
)

// split answers a line's words; a blank in a quoted name parts none. It answers nothing, false, if a name isn't ended, or a word has no bytes.
func split(line string) ([]string, bool) {
	var told []string
	for {
		at := 0
		if strings.HasPrefix(line, `"`) {
			quoted, err := strconv.QuotedPrefix(line)
			if err != nil {
				return nil, false
			}
			at = len(quoted)
		}
		blank := strings.IndexByte(line[at:], ' ')
		if blank < 0 {
			return append(told, line), line != ""
		}
		if at+blank == 0 {
			return nil, false
		}
		told = append(told, line[:at+blank])
		line = line[at+blank+1:]
	}
}

// reader reads fields back from texts; wrong, once one isn't what it should be.
type reader struct{ wrong bool }

func (r *reader) mind(err error) { r.wrong = r.wrong || err != nil }

func (r *reader) name(s string) string {
	name, err := strconv.Unquote(s)
	r.mind(err)
	return name
}

func (r *reader) int(s string) int {
	n, err := strconv.Atoi(s)
	r.mind(err)
	return n
}

func (r *reader) whole(s string) uint64 {
	n, err := strconv.ParseUint(s, 10, 64)
	r.mind(err)
	return n
}

func (r *reader) presence(s string) api.Presence {
	n := strings.Split(s, "/")
	if len(n) != 3 {
		r.wrong = true
		return api.Presence{}
	}
	return pres(r.int(n[0]), r.int(n[1]), r.int(n[2]))
}

func (r *reader) event(s string) api.Event {
	quoted, err := strconv.QuotedPrefix(s)
	r.mind(err)
	rest, colon := strings.CutPrefix(s[len(quoted):], ":")
	rest, seq, at := strings.Cut(rest, "@")
	before, after, arrow := strings.Cut(rest, ">")
	r.wrong = r.wrong || !colon || !at || !arrow
	return event(r.name(quoted), r.presence(before), r.presence(after), r.whole(seq))
}

// opOf reads an op back from its line: what its kind doesn't name is zero.
func opOf(line string) (api.Op, bool) {
	l, ok := split(line)
	if !ok {
		return api.Op{}, false
	}
	i := slices.IndexFunc(kinds, func(k namedKind) bool { return k.name == l[0] })
	if i < 0 {
		return api.Op{}, line == "bad"
	}
	x := api.Op{Kind: kinds[i].kind}
	count := map[int]int{api.Set: 6, api.Beat: 4, api.Clear: 3, api.Query: 2, api.Watch: 2, api.Unwatch: 2, api.Batch: len(l), api.Poll: 1, api.Close: 1}
	if len(l) != count[x.Kind] {
		return api.Op{}, false
	}
	var r reader
	switch x.Kind {
	case api.Set:
		x.User, x.Id, x.Status, x.Prio, x.Ttl = r.name(l[1]), r.int(l[2]), r.int(l[3]), r.int(l[4]), r.whole(l[5])
	case api.Beat:
		x.User, x.Id, x.Ttl = r.name(l[1]), r.int(l[2]), r.whole(l[3])
	case api.Clear:
		x.User, x.Id = r.name(l[1]), r.int(l[2])
	case api.Query, api.Watch, api.Unwatch:
		x.User = r.name(l[1])
	case api.Batch:
		for _, quoted := range l[1:] {
			x.Users = append(x.Users, r.name(quoted))
		}
	}
	return x, !r.wrong
}

// replyOf reads a reply back from its words: an event's begins with a quote, a value's doesn't.
func replyOf(told string) (api.Reply, bool) {
	l, ok := split(told)
	if !ok {
		return api.Reply{}, false
	}
	var r reader
	p := api.Reply{Err: api.Errno(r.int(l[0]))}
	for i, word := range l[1:] {
		switch {
		case word == "lost":
			p.Lost = true
			r.wrong = r.wrong || i != len(l)-2
		case strings.HasPrefix(word, `"`):
			p.Events = append(p.Events, r.event(word))
		default:
			p.Values = append(p.Values, r.presence(word))
			r.wrong = r.wrong || len(p.Events) > 0
		}
	}
	return p, !r.wrong
}

// named answers an op without what its kind doesn't name; of no kind it names nothing.
func named(x api.Op) api.Op {
	switch x.Kind {
	case api.Set:
		x.Users = nil
		return x
	case api.Beat:
		return api.Op{Kind: x.Kind, User: x.User, Id: x.Id, Ttl: x.Ttl}
	case api.Clear:
		return api.Op{Kind: x.Kind, User: x.User, Id: x.Id}
	case api.Query, api.Watch, api.Unwatch:
		return api.Op{Kind: x.Kind, User: x.User}
	case api.Batch:
		return api.Op{Kind: x.Kind, Users: x.Users}
	case api.Poll, api.Close:
		return api.Op{Kind: x.Kind}
	}
	return api.Op{}
}

func likeOps(x, y api.Op) bool {
	return x.Kind == y.Kind && x.User == y.User && x.Id == y.Id && x.Status == y.Status && x.Prio == y.Prio && x.Ttl == y.Ttl && slices.Equal(x.Users, y.Users)
}

func likeReplies(a, b api.Reply) bool {
	return a.Err == b.Err && a.Lost == b.Lost && slices.Equal(a.Values, b.Values) && slices.Equal(a.Events, b.Events)
}

// tricky are names of which, put into lines without care, some would be taken for others, or for several.
var tricky = []string{"", "a", "A", "b", "ab", " ", "a ", " a", "a b", `"`, `a"`, `a" "b`, `\`, `\\`, `\n`, "\n", "\x00", `\x00`, "\xff", `\xff`, "\ufffd", "é", "\xc3", "0", "1", "1 2"}

// upToTwo are all lists of none, of one, and of two of some things.
func upToTwo[T any](some []T) [][]T {
	l := [][]T{nil}
	for _, x := range some {
		l = append(l, []T{x})
		for _, y := range some {
			l = append(l, []T{x, y})
		}
	}
	return l
}

// ops are unlike ops of all kinds, of which nothing is set but what the kind names.
func ops() []api.Op {
	l := []api.Op{{Kind: api.Poll}, {Kind: api.Close}}
	three := [][]string{{"a", "b", "a"}, {"a", "a", "b"}, {"a", "a", "a"}}
	for _, users := range append(upToTwo(tricky), three...) {
		l = append(l, api.Op{Kind: api.Batch, Users: users})
	}
	for _, user := range tricky {
		l = append(l, api.Op{Kind: api.Query, User: user}, api.Op{Kind: api.Watch, User: user}, api.Op{Kind: api.Unwatch, User: user})
		for _, id := range []int{-1, 0, 1, 10, 11, 255} {
			l = append(l, api.Op{Kind: api.Clear, User: user, Id: id})
			for _, ttl := range []uint64{0, 1, 10, 11, 1 << 63, top} {
				l = append(l, api.Op{Kind: api.Beat, User: user, Id: id, Ttl: ttl})
				for _, status := range []int{1, 9, 11} {
					for _, prio := range []int{0, 1, 9} {
						l = append(l, api.Op{Kind: api.Set, User: user, Id: id, Status: status, Prio: prio, Ttl: ttl})
					}
				}
			}
		}
	}
	return l
}

// 11.3: of unlike ops each line is another one, and tells the op whole.
func TestOpsAreToldUnlike(t *testing.T) {
	met := map[string]api.Op{}
	for _, x := range ops() {
		told := op.Line(x)
		if y, found := met[told]; found {
			t.Errorf("the line of %#v and of %#v is %q", x, y, told)
		}
		met[told] = x
		if y, ok := opOf(told); !ok || !likeOps(x, y) {
			t.Errorf("the line of %#v, %q, reads as %#v, %v", x, told, y, ok)
		}
		if told == "bad" {
			t.Errorf("the line of %#v is %q", x, told)
		}
	}
}

// others are the op, with one field alone that is another one.
func others(x api.Op) []api.Op {
	var l []api.Op
	with := func(change func(y *api.Op)) {
		y := x
		y.Users = slices.Clone(x.Users)
		change(&y)
		l = append(l, y)
	}
	for kind := -1; kind <= 11; kind++ {
		with(func(y *api.Op) { y.Kind = kind })
	}
	for _, user := range tricky {
		with(func(y *api.Op) { y.User = user })
		with(func(y *api.Op) { y.Users = append(y.Users, user) })
		for i := range x.Users {
			with(func(y *api.Op) { y.Users[i] = user })
			with(func(y *api.Op) { y.Users = slices.Insert(y.Users, i, user) })
		}
	}
	for i := range x.Users {
		with(func(y *api.Op) { y.Users = slices.Delete(y.Users, i, i+1) })
		with(func(y *api.Op) { y.Users[0], y.Users[i] = y.Users[i], y.Users[0] })
	}
	for n := range 12 {
		with(func(y *api.Op) { y.Id = n })
		with(func(y *api.Op) { y.Id = 255 - n })
		with(func(y *api.Op) { y.Status = n })
		with(func(y *api.Op) { y.Prio = n })
		with(func(y *api.Op) { y.Ttl = uint64(n) })
		with(func(y *api.Op) { y.Ttl = 1<<63 + uint64(n) })
		with(func(y *api.Op) { y.Ttl = top - uint64(n) })
	}
	return l
}

// 11.3: two ops, neither of them bad, that are alike but for one field are told unlike, if their kind names it; else alike.
func TestOpsUnlikeInOneField(t *testing.T) {
	unlike := 0
	for _, k := range kinds {
		x := api.Op{Kind: k.kind, User: "u", Id: 1, Status: 1, Prio: 1, Ttl: 1, Users: []string{"u", "v", "w"}}
		for _, y := range others(x) {
			if model.Bad(y) {
				continue
			}
			want := likeOps(named(x), named(y))
			if !want {
				unlike++
			}
			if got := op.Line(x) == op.Line(y); got != want {
				t.Errorf("the lines of %#v and of %#v are %q and %q", x, y, op.Line(x), op.Line(y))
			}
		}
	}
	if unlike < 300 {
		t.Errorf("only %d are unlike", unlike)
	}
}

// 11.3: no op that isn't bad has the line of what is no kind.
func TestNoGoodOpIsToldBad(t *testing.T) {
	for kind := -20; kind <= 20; kind++ {
		x := api.Op{Kind: kind, User: "u", Id: 1, Status: 1, Prio: 1, Ttl: 1, Users: []string{"u"}}
		if toldBad := op.Line(x) == "bad"; toldBad != model.Bad(x) {
			t.Errorf("the line of %#v is %q", x, op.Line(x))
		}
	}
}

// 11.3: of unlike names each is told otherwise, in ops and in events.
func TestNamesAreToldUnlike(t *testing.T) {
	lines, replies := map[string]string{}, map[string]string{}
	for _, name := range bytewise() {
		told := op.Line(api.Op{Kind: api.Query, User: name})
		if other, found := lines[told]; found {
			t.Errorf("the line of %.40q and of %.40q is %.40q", name, other, told)
		}
		lines[told] = name
		told = op.Reply(api.Reply{Events: []api.Event{event(name, pres(0, 0, 0), pres(1, 2, 3), 4)}})
		if other, found := replies[told]; found {
			t.Errorf("the words of events of %.40q and of %.40q are %.40q", name, other, told)
		}
		replies[told] = name
		if r, ok := replyOf(told); !ok || len(r.Events) != 1 || r.Events[0].User != name {
			t.Errorf("%.40q reads as %#.80v, %v", told, r, ok)
		}
	}
}

// 11.3: of unlike presences the words are others.
func TestPresencesAreToldUnlike(t *testing.T) {
	met := map[string]api.Presence{}
	for _, a := range ints {
		for _, b := range ints {
			for _, c := range ints {
				p := pres(a.n, b.n, c.n)
				told := op.Presence(p)
				if q, found := met[told]; found {
					t.Errorf("the words of %#v and of %#v are %q", p, q, told)
				}
				met[told] = p
			}
		}
	}
}

// values are lists of up to two presences.
func values() [][]api.Presence {
	return upToTwo([]api.Presence{pres(0, 0, 0), pres(1, 1, 1), pres(1, 1, 11), pres(1, 11, 1), pres(11, 1, 1), pres(9, 0, 8)})
}

// events are lists of up to two events.
func events() [][]api.Event {
	nobody, here := pres(0, 0, 0), pres(1, 0, 1)
	var some []api.Event
	for _, user := range []string{"u", "v", `u":0/0/0>1/0/1@1 "u`, "lost"} {
		for _, seq := range []uint64{1, 11, top} {
			some = append(some, event(user, nobody, here, seq), event(user, here, nobody, seq), event(user, here, here, seq))
		}
	}
	return upToTwo(some)
}

// 11.3: of unlike replies the words are others, and tell the reply whole.
func TestRepliesAreToldUnlike(t *testing.T) {
	allEvents := events()
	for _, v := range values() {
		met := map[string]api.Reply{}
		for _, e := range allEvents {
			for _, err := range []api.Errno{api.OK, api.ErrArg, api.ErrLong, 11} {
				for _, lost := range []bool{false, true} {
					r := api.Reply{Err: err, Values: v, Events: e, Lost: lost}
					told := op.Reply(r)
					if p, found := met[told]; found {
						t.Errorf("the words of %#v and of %#v are %q", r, p, told)
					}
					met[told] = r
					// Values are read back here too, so replies with other ones are told unlike as well.
					if p, ok := replyOf(told); !ok || !likeReplies(r, p) {
						t.Errorf("the words of %#v, %q, read as %#v, %v", r, told, p, ok)
					}
				}
			}
		}
	}
}

// otherReplies are the reply, with one field alone that is another one.
func otherReplies(r api.Reply) []api.Reply {
	var l []api.Reply
	with := func(change func(p *api.Reply)) {
		p := r
		p.Values, p.Events = slices.Clone(r.Values), slices.Clone(r.Events)
		change(&p)
		if !likeReplies(r, p) {
			l = append(l, p)
		}
	}
	presences := func(of func(p *api.Reply) *api.Presence) {
		for _, n := range ints {
			with(func(p *api.Reply) { of(p).Status = n.n })
			with(func(p *api.Reply) { of(p).Prio = n.n })
			with(func(p *api.Reply) { of(p).Live = n.n })
		}
	}
	with(func(p *api.Reply) { p.Lost = !p.Lost })
	with(func(p *api.Reply) { p.Values = nil })
	with(func(p *api.Reply) { p.Events = nil })
	for _, n := range ints {
		with(func(p *api.Reply) { p.Err = api.Errno(n.n) })
	}
	for i := range r.Values {
		presences(func(p *api.Reply) *api.Presence { return &p.Values[i] })
		with(func(p *api.Reply) { p.Values = slices.Delete(p.Values, i, i+1) })
		with(func(p *api.Reply) { p.Values = slices.Insert(p.Values, i, p.Values[i]) })
		with(func(p *api.Reply) { p.Values[0], p.Values[i] = p.Values[i], p.Values[0] })
	}
	for i := range r.Events {
		presences(func(p *api.Reply) *api.Presence { return &p.Events[i].Old })
		presences(func(p *api.Reply) *api.Presence { return &p.Events[i].New })
		for _, n := range wholes {
			with(func(p *api.Reply) { p.Events[i].Seq = n.n })
		}
		for _, user := range tricky {
			with(func(p *api.Reply) { p.Events[i].User = user })
		}
		with(func(p *api.Reply) { p.Events = slices.Delete(p.Events, i, i+1) })
		with(func(p *api.Reply) { p.Events = slices.Insert(p.Events, i, p.Events[i]) })
		with(func(p *api.Reply) { p.Events[0], p.Events[i] = p.Events[i], p.Events[0] })
	}
	return l
}

// 11.3: two replies that are alike but for one field are told unlike.
func TestRepliesUnlikeInOneField(t *testing.T) {
	r := api.Reply{
		Err:    api.ErrFull,
		Values: []api.Presence{pres(1, 2, 3), pres(4, 5, 6)},
		Events: []api.Event{event("u", pres(1, 2, 3), pres(4, 5, 6), 7), event("v", pres(3, 2, 1), pres(6, 5, 4), 8)},
	}
	for _, p := range otherReplies(r) {
		if op.Reply(r) == op.Reply(p) {
			t.Errorf("the words of %#v and of %#v are %q", r, p, op.Reply(p))
		}
	}
}
