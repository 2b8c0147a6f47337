package op_test

import (
	"slices"
	"strconv"
	"strings"
	"testing"

	"doorman/api"
)

func event(user string, before, after api.Presence, seq uint64) api.Event {
	return api.Event{User: user, Old: before, New: after, Seq: seq}
}

// 11.2: ordinary replies.
func TestReply(t *testing.T) {
	nobody, here := pres(0, 0, 0), pres(3, 0, 1)
	cases := []struct {
		r    api.Reply
		want string
	}{
		{api.Reply{}, `0`},
		{api.Reply{Err: api.ErrClosed}, `5`},
		{api.Reply{Values: []api.Presence{nobody}}, `0 0/0/0`},
		{api.Reply{Values: []api.Presence{here, nobody, here}}, `0 3/0/1 0/0/0 3/0/1`},
		{api.Reply{Events: []api.Event{event("u", nobody, pres(2, 0, 1), 1)}}, `0 "u":0/0/0>2/0/1@1`},
		{api.Reply{Events: []api.Event{event("u", nobody, here, 1), event("v", here, nobody, 2)}}, `0 "u":0/0/0>3/0/1@1 "v":3/0/1>0/0/0@2`},
		{api.Reply{Lost: true}, `0 lost`},
		{api.Reply{Events: []api.Event{event("u", nobody, here, 7)}, Lost: true}, `0 "u":0/0/0>3/0/1@7 lost`},
		{api.Reply{Values: []api.Presence{here}, Lost: true}, `0 3/0/1 lost`},
	}
	for _, c := range cases {
		checkReply(t, c.r, c.want)
	}
}

// 11.2: each error, and numbers that are none.
func TestReplyErrors(t *testing.T) {
	errors := []api.Errno{api.OK, api.ErrArg, api.ErrFull, api.ErrNone, api.ErrWatch, api.ErrClosed, api.ErrForm, api.ErrLong}
	for i, err := range errors {
		number := strconv.Itoa(i)
		checkReply(t, api.Reply{Err: err}, number)
		checkReply(t, api.Reply{Err: err, Lost: true}, number+" lost")
		checkReply(t, api.Reply{Err: err, Values: []api.Presence{pres(1, 2, 3)}}, number+" 1/2/3")
	}
	for _, n := range ints {
		checkReply(t, api.Reply{Err: api.Errno(n.n)}, n.text)
	}
}

// 11.2: no values and no events, one, several, of both, lost and not lost.
func TestReplyLists(t *testing.T) {
	values := []api.Presence{pres(1, 2, 3), pres(0, 0, 0), pres(1, 2, 3), pres(9, 8, 7)}
	valueWords := []string{"1/2/3", "0/0/0", "1/2/3", "9/8/7"}
	events := []api.Event{event("b", values[0], values[1], 9), event("a", values[1], values[3], 8), event("b", values[0], values[1], 9)}
	eventWords := []string{`"b":1/2/3>0/0/0@9`, `"a":0/0/0>9/8/7@8`, `"b":1/2/3>0/0/0@9`}
	for v := range len(values) + 1 {
		for e := range len(events) + 1 {
			told := slices.Concat([]string{"4"}, valueWords[:v], eventWords[:e])
			r := api.Reply{Err: api.ErrWatch, Values: values[:v], Events: events[:e]}
			checkReply(t, r, strings.Join(told, " "))
			r.Lost = true
			checkReply(t, r, strings.Join(append(told, "lost"), " "))
		}
	}
	checkReply(t, api.Reply{Values: []api.Presence{}, Events: []api.Event{}}, "0")
	checkReply(t, api.Reply{Values: []api.Presence{}, Events: []api.Event{}, Lost: true}, "0 lost")
}

// 11.2: as many values and events as there are.
func TestReplyOfMany(t *testing.T) {
	for n := range 300 {
		values := slices.Repeat([]api.Presence{pres(1, 2, 3)}, n)
		checkReply(t, api.Reply{Values: values}, "0"+strings.Repeat(" 1/2/3", n))
		events := slices.Repeat([]api.Event{event("u", pres(1, 2, 3), pres(4, 5, 6), 7)}, n)
		checkReply(t, api.Reply{Events: events}, "0"+strings.Repeat(` "u":1/2/3>4/5/6@7`, n))
	}
}

// 11.2: each number in each place of an event.
func TestReplyEventNumbers(t *testing.T) {
	for _, n := range ints {
		for place := range 6 {
			fields := []int{1, 2, 3, 4, 5, 6}
			told := []string{"1", "2", "3", "4", "5", "6"}
			fields[place], told[place] = n.n, n.text
			e := event("u", pres(fields[0], fields[1], fields[2]), pres(fields[3], fields[4], fields[5]), 7)
			want := `0 "u":` + strings.Join(told[:3], "/") + ">" + strings.Join(told[3:], "/") + "@7"
			checkReply(t, api.Reply{Events: []api.Event{e}}, want)
		}
	}
	for _, n := range wholes {
		e := event("u", pres(1, 2, 3), pres(4, 5, 6), n.n)
		checkReply(t, api.Reply{Events: []api.Event{e}}, `0 "u":1/2/3>4/5/6@`+n.text)
	}
}

// 11.2: each number in each place of a value.
func TestReplyValueNumbers(t *testing.T) {
	for _, n := range ints {
		values := []api.Presence{pres(n.n, 1, 2), pres(1, n.n, 2), pres(1, 2, n.n)}
		checkReply(t, api.Reply{Values: values}, "0 "+n.text+"/1/2 1/"+n.text+"/2 1/2/"+n.text)
	}
}

// checkEventName asks the words of replies with an event of a user.
func checkEventName(t *testing.T, name, quoted string) {
	t.Helper()
	word := quoted + `:0/0/0>1/2/3@4`
	e := event(name, pres(0, 0, 0), pres(1, 2, 3), 4)
	checkReply(t, api.Reply{Events: []api.Event{e}}, "0 "+word)
	checkReply(t, api.Reply{Events: []api.Event{e, e}, Lost: true}, "0 "+word+" "+word+" lost")
}

// 11.2: an event's user is quoted.
func TestReplyNames(t *testing.T) {
	for _, q := range quotes {
		checkEventName(t, q.name, q.quoted)
	}
}

// 11.2: an event's user is quoted as the library does it.
func TestReplyNamesOfAllBytes(t *testing.T) {
	for _, name := range bytewise() {
		checkEventName(t, name, strconv.Quote(name))
	}
}
