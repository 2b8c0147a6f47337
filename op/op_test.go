package op_test

import (
	"math"
	"slices"
	"strconv"
	"strings"
	"testing"

	"doorman/api"
	"doorman/op"
)

const top = math.MaxUint64

// namedKind is a kind of ops, with its name.
type namedKind struct {
	kind int
	name string
}

// kinds are all kinds of ops.
var kinds = []namedKind{
	{api.Set, "set"},
	{api.Beat, "beat"},
	{api.Clear, "clear"},
	{api.Query, "query"},
	{api.Batch, "batch"},
	{api.Watch, "watch"},
	{api.Unwatch, "unwatch"},
	{api.Poll, "poll"},
	{api.Close, "close"},
}

// strange are numbers of no kind.
var strange = []int{math.MinInt, math.MinInt + 1, math.MinInt + 9, -1 << 32, -257, -256, -255, -9, -2, -1, 0, 10, 11, 12, 15, 16, 17, 255, 256, 257, 265, 1 << 16, 1<<16 + 1, 1 << 32, 1<<32 + 4, 1<<62 + 1, math.MaxInt - 1, math.MaxInt}

// ints are numbers of the type int, told in decimal.
var ints = []struct {
	n    int
	text string
}{
	{0, "0"}, {1, "1"}, {2, "2"}, {7, "7"}, {9, "9"}, {10, "10"}, {11, "11"}, {99, "99"}, {100, "100"}, {255, "255"}, {256, "256"},
	{1234567890, "1234567890"}, {1 << 32, "4294967296"}, {math.MaxInt - 1, "9223372036854775806"}, {math.MaxInt, "9223372036854775807"},
	{-1, "-1"}, {-2, "-2"}, {-9, "-9"}, {-10, "-10"}, {-11, "-11"}, {-255, "-255"}, {-1234567890, "-1234567890"},
	{math.MinInt + 1, "-9223372036854775807"}, {math.MinInt, "-9223372036854775808"},
}

// wholes are numbers of the type uint64, told in decimal.
var wholes = []struct {
	n    uint64
	text string
}{
	{0, "0"}, {1, "1"}, {5, "5"}, {9, "9"}, {10, "10"}, {100, "100"}, {12345678901234567890, "12345678901234567890"},
	{1 << 32, "4294967296"}, {1<<63 - 1, "9223372036854775807"}, {1 << 63, "9223372036854775808"}, {1<<63 + 1, "9223372036854775809"},
	{top - 1, "18446744073709551614"}, {top, "18446744073709551615"},
}

// quotes are names, quoted.
var quotes = []struct{ name, quoted string }{
	{"", `""`},
	{"ann", `"ann"`},
	{"Ann", `"Ann"`},
	{" ", `" "`},
	{"  ", `"  "`},
	{" a", `" a"`},
	{"a ", `"a "`},
	{"a b", `"a b"`},
	{`"`, `"\""`},
	{`""`, `"\"\""`},
	{`a" "b`, `"a\" \"b"`},
	{`\`, `"\\"`},
	{`\"`, `"\\\""`},
	{`\n`, `"\\n"`},
	{`\xff`, `"\\xff"`},
	{"'", `"'"`},
	{"`", "\"`\""},
	{"\n", `"\n"`},
	{"\r\n", `"\r\n"`},
	{"a\nb", `"a\nb"`},
	{"\t", `"\t"`},
	{"\a\b\f\v", `"\a\b\f\v"`},
	{"\x00", `"\x00"`},
	{"\x1b", `"\x1b"`},
	{"\x7f", `"\x7f"`},
	{"\x80", `"\x80"`},
	{"\xff", `"\xff"`},
	{"\xc3", `"\xc3"`},
	{"\xc3(", `"\xc3("`},
	{"\xed\xa0\x80", `"\xed\xa0\x80"`},
	{"\xf4\x90\x80\x80", `"\xf4\x90\x80\x80"`},
	{"é", `"é"`},
	{"e\u0301", "\"e\u0301\""},
	{"日本", `"日本"`},
	{"\U0001f600", "\"\U0001f600\""},
	{"\u0080", `"\u0080"`},
	{"\u00a0", `"\u00a0"`},
	{"\u2028", `"\u2028"`},
	{"\ufeff", `"\ufeff"`},
	{"\ufffd", "\"\ufffd\""},
	{"\U0010ffff", `"\U0010ffff"`},
	{"1", `"1"`},
	{"-1", `"-1"`},
	{"lost", `"lost"`},
	{"bad", `"bad"`},
	{"0/0/0", `"0/0/0"`},
	{`u":0/0/0>0/0/0@0 "v`, `"u\":0/0/0>0/0/0@0 \"v"`},
	{"sixteen bytes...", `"sixteen bytes..."`},
	{"seventeen bytes..", `"seventeen bytes.."`},
}

// bytewise are names of each byte alone, of each two bytes, and of many bytes.
func bytewise() []string {
	var l []string
	for a := range 256 {
		l = append(l, string([]byte{byte(a)}))
		for b := range 256 {
			l = append(l, string([]byte{byte(a), byte(b)}))
		}
	}
	for _, part := range []string{"x", " ", `"`, `\`, "\n", "\xff", "é", "\U0010ffff"} {
		l = append(l, strings.Repeat(part, 100), strings.Repeat(part, 5000))
	}
	return l
}

func pres(status, prio, live int) api.Presence {
	return api.Presence{Status: status, Prio: prio, Live: live}
}

// roomy is a list like l, in memory of its own, with spare room behind it that holds junk, so that a call that looks at spare room is seen.
func roomy[T any](l []T, junk T) []T {
	all := slices.Repeat([]T{junk}, len(l)+3)
	copy(all, l)
	return all[:len(l)]
}

// same sees that a list, spare room included, is as it was ahead of a call.
func same[T comparable](t *testing.T, call string, all, before []T) {
	t.Helper()
	if !slices.Equal(all, before) {
		t.Errorf("%s: what was handed in is changed from %#.80v to %#.80v", call, before, all)
	}
}

// line is Line, of users with spare room: it sees that they are left as they were, and that a second call answers alike.
func line(t *testing.T, x api.Op) string {
	t.Helper()
	if x.Users != nil {
		x.Users = roomy(x.Users, "junk")
	}
	all := x.Users[:cap(x.Users)]
	before := slices.Clone(all)
	got := op.Line(x)
	same(t, "Line", all, before)
	if again := op.Line(x); again != got {
		t.Errorf("Line(%#.80v) is %.80q, then %.80q", x, got, again)
	}
	return got
}

// checkLine holds an op's line against what it should be.
func checkLine(t *testing.T, x api.Op, want string) {
	t.Helper()
	if got := line(t, x); got != want {
		t.Errorf("Line(%#.80v) = %.200q, not %.200q", x, got, want)
	}
}

// reply is Reply, of lists with spare room: it sees that they are left as they were, and that a second call answers alike.
func reply(t *testing.T, r api.Reply) string {
	t.Helper()
	if r.Values != nil {
		r.Values = roomy(r.Values, pres(-7, -7, -7))
	}
	if r.Events != nil {
		r.Events = roomy(r.Events, api.Event{User: "junk", Seq: 77})
	}
	values, events := r.Values[:cap(r.Values)], r.Events[:cap(r.Events)]
	valuesBefore, eventsBefore := slices.Clone(values), slices.Clone(events)
	got := op.Reply(r)
	same(t, "Reply", values, valuesBefore)
	same(t, "Reply", events, eventsBefore)
	if again := op.Reply(r); again != got {
		t.Errorf("Reply(%#.80v) is %.80q, then %.80q", r, got, again)
	}
	return got
}

// checkReply holds a reply's words against what they should be.
func checkReply(t *testing.T, r api.Reply, want string) {
	t.Helper()
	if got := reply(t, r); got != want {
		t.Errorf("Reply(%#.80v) = %.200q, not %.200q", r, got, want)
	}
}

// 11.1
func TestName(t *testing.T) {
	for _, k := range kinds {
		if got := op.Name(k.kind); got != k.name {
			t.Errorf("Name(%d) = %q, not %q", k.kind, got, k.name)
		}
	}
}

// 11.1: the kinds are those from 1 to 9.
func TestNameOfNoKind(t *testing.T) {
	for _, kind := range strange {
		if got := op.Name(kind); got != "" {
			t.Errorf("Name(%d) = %q, not no bytes", kind, got)
		}
	}
	for kind := -1000; kind < 1000; kind++ {
		if got := op.Name(kind); (got != "") != (1 <= kind && kind <= 9) {
			t.Errorf("Name(%d) = %q", kind, got)
		}
	}
}

// 11.2
func TestPresence(t *testing.T) {
	cases := []struct {
		p    api.Presence
		want string
	}{
		{pres(0, 0, 0), "0/0/0"},
		{pres(1, 2, 3), "1/2/3"},
		{pres(3, 0, 1), "3/0/1"},
		{pres(9, 9, 8), "9/9/8"},
		{pres(10, 100, 1000), "10/100/1000"},
		{pres(-1, -20, -300), "-1/-20/-300"},
	}
	for _, c := range cases {
		if got := op.Presence(c.p); got != c.want {
			t.Errorf("Presence(%v) = %q, not %q", c.p, got, c.want)
		}
	}
}

// 11.2: each number in each place.
func TestPresenceNumbers(t *testing.T) {
	for _, a := range ints {
		for _, b := range ints {
			for _, c := range ints {
				want := a.text + "/" + b.text + "/" + c.text
				if got := op.Presence(pres(a.n, b.n, c.n)); got != want {
					t.Errorf("Presence of %d, %d, %d = %q, not %q", a.n, b.n, c.n, got, want)
				}
			}
		}
	}
}

// The quotes above are held against the library's own, so that tests may lean on either.
func TestQuotes(t *testing.T) {
	for _, q := range quotes {
		if got := strconv.Quote(q.name); got != q.quoted {
			t.Errorf("Quote(%q) = %s, not %s", q.name, got, q.quoted)
		}
	}
}
