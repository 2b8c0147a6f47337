package op_test

import (
	"slices"
	"strconv"
	"strings"
	"testing"

	"doorman/api"
)

// 11.1: the chapter's example, and ordinary ops.
func TestLine(t *testing.T) {
	cases := []struct {
		x    api.Op
		want string
	}{
		{api.Op{Kind: api.Set, User: "ann", Id: 1, Status: 2, Ttl: 5}, `set "ann" 1 2 0 5`},
		{api.Op{Kind: api.Set, User: "u", Id: 255, Status: 9, Prio: 8, Ttl: top}, `set "u" 255 9 8 18446744073709551615`},
		{api.Op{Kind: api.Beat, User: "ann", Id: 1, Ttl: 5}, `beat "ann" 1 5`},
		{api.Op{Kind: api.Clear, User: "ann", Id: 1}, `clear "ann" 1`},
		{api.Op{Kind: api.Query, User: "ann"}, `query "ann"`},
		{api.Op{Kind: api.Batch, Users: []string{"ann", "bob"}}, `batch "ann" "bob"`},
		{api.Op{Kind: api.Watch, User: "ann"}, `watch "ann"`},
		{api.Op{Kind: api.Unwatch, User: "ann"}, `unwatch "ann"`},
		{api.Op{Kind: api.Poll}, `poll`},
		{api.Op{Kind: api.Close}, `close`},
	}
	for _, c := range cases {
		checkLine(t, c.x, c.want)
	}
}

// 11.1: ops whose named fields are zero are told whole.
func TestLineOfZeroFields(t *testing.T) {
	wants := []string{`set "" 0 0 0 0`, `beat "" 0 0`, `clear "" 0`, `query ""`, `batch`, `watch ""`, `unwatch ""`, `poll`, `close`}
	for i, k := range kinds {
		checkLine(t, api.Op{Kind: k.kind}, wants[i])
	}
}

// 11.1: of each kind just the fields that it names, whatever the others are.
func TestLineOfNamedFields(t *testing.T) {
	fields := []api.Op{
		{User: "u", Id: 11, Status: 22, Prio: 33, Ttl: 44, Users: []string{"v", "w"}},
		{User: "u", Id: -11, Status: -22, Prio: -33, Ttl: top, Users: []string{""}},
		{User: "u", Id: 11, Status: 0, Prio: 0, Ttl: 0, Users: nil},
		{User: "u", Id: 0, Status: 22, Prio: -1, Ttl: 1, Users: slices.Repeat([]string{"\xff"}, 20)},
	}
	for _, x := range fields {
		id, status, prio, ttl := strconv.Itoa(x.Id), strconv.Itoa(x.Status), strconv.Itoa(x.Prio), strconv.FormatUint(x.Ttl, 10)
		users := ""
		for _, user := range x.Users {
			users += " " + strconv.Quote(user)
		}
		wants := []string{
			`set "u" ` + id + " " + status + " " + prio + " " + ttl,
			`beat "u" ` + id + " " + ttl,
			`clear "u" ` + id,
			`query "u"`,
			`batch` + users,
			`watch "u"`,
			`unwatch "u"`,
			`poll`,
			`close`,
		}
		for i, k := range kinds {
			x.Kind = k.kind
			checkLine(t, x, wants[i])
		}
	}
}

// 11.1: of what is no kind just bad, whatever its fields are.
func TestLineOfNoKind(t *testing.T) {
	for _, kind := range strange {
		checkLine(t, api.Op{Kind: kind}, "bad")
		checkLine(t, api.Op{Kind: kind, User: "ann", Id: 1, Status: 2, Prio: 3, Ttl: 4, Users: []string{"ann", "bob"}}, "bad")
		checkLine(t, api.Op{Kind: kind, User: "\xff", Id: -1, Status: -2, Prio: -3, Ttl: top, Users: []string{""}}, "bad")
	}
	checkLine(t, api.Op{}, "bad")
}

// 11.1: an op of a kind is told by that kind's line, even if it may not be.
func TestLineOfBadFields(t *testing.T) {
	cases := []struct {
		x    api.Op
		want string
	}{
		{api.Op{Kind: api.Set, User: "seventeen bytes..", Id: 256, Status: 10, Prio: 10}, `set "seventeen bytes.." 256 10 10 0`},
		{api.Op{Kind: api.Set, Id: -1, Status: -2, Prio: -3}, `set "" -1 -2 -3 0`},
		{api.Op{Kind: api.Beat, User: "", Id: -5, Ttl: 1}, `beat "" -5 1`},
		{api.Op{Kind: api.Clear, User: "seventeen bytes..", Id: 1000}, `clear "seventeen bytes.." 1000`},
		{api.Op{Kind: api.Query, User: "seventeen bytes.."}, `query "seventeen bytes.."`},
		{api.Op{Kind: api.Watch, User: ""}, `watch ""`},
		{api.Op{Kind: api.Unwatch, User: ""}, `unwatch ""`},
		{api.Op{Kind: api.Batch, Users: slices.Repeat([]string{"a"}, 9)}, `batch` + strings.Repeat(` "a"`, 9)},
		{api.Op{Kind: api.Batch, Users: []string{"", "seventeen bytes.."}}, `batch "" "seventeen bytes.."`},
	}
	for _, c := range cases {
		checkLine(t, c.x, c.want)
	}
}

// 11.1: each number in each place.
func TestLineNumbers(t *testing.T) {
	for _, n := range ints {
		checkLine(t, api.Op{Kind: api.Set, User: "u", Id: n.n, Status: 1, Prio: 2, Ttl: 3}, `set "u" `+n.text+` 1 2 3`)
		checkLine(t, api.Op{Kind: api.Set, User: "u", Id: 1, Status: n.n, Prio: 2, Ttl: 3}, `set "u" 1 `+n.text+` 2 3`)
		checkLine(t, api.Op{Kind: api.Set, User: "u", Id: 1, Status: 2, Prio: n.n, Ttl: 3}, `set "u" 1 2 `+n.text+` 3`)
		checkLine(t, api.Op{Kind: api.Beat, User: "u", Id: n.n, Ttl: 3}, `beat "u" `+n.text+` 3`)
		checkLine(t, api.Op{Kind: api.Clear, User: "u", Id: n.n}, `clear "u" `+n.text)
	}
	for _, n := range wholes {
		checkLine(t, api.Op{Kind: api.Set, User: "u", Id: 1, Status: 2, Prio: 3, Ttl: n.n}, `set "u" 1 2 3 `+n.text)
		checkLine(t, api.Op{Kind: api.Beat, User: "u", Id: 1, Ttl: n.n}, `beat "u" 1 `+n.text)
	}
}

// checkNames asks the lines of all kinds that name users.
func checkNames(t *testing.T, name, quoted string) {
	t.Helper()
	checkLine(t, api.Op{Kind: api.Set, User: name, Id: 1, Status: 2, Prio: 3, Ttl: 4}, `set `+quoted+` 1 2 3 4`)
	checkLine(t, api.Op{Kind: api.Beat, User: name, Id: 1, Ttl: 4}, `beat `+quoted+` 1 4`)
	checkLine(t, api.Op{Kind: api.Clear, User: name, Id: 1}, `clear `+quoted+` 1`)
	checkLine(t, api.Op{Kind: api.Query, User: name}, `query `+quoted)
	checkLine(t, api.Op{Kind: api.Watch, User: name}, `watch `+quoted)
	checkLine(t, api.Op{Kind: api.Unwatch, User: name}, `unwatch `+quoted)
	checkLine(t, api.Op{Kind: api.Batch, Users: []string{name}}, `batch `+quoted)
	checkLine(t, api.Op{Kind: api.Batch, Users: []string{"ann", name, name}}, `batch "ann" `+quoted+" "+quoted)
	checkLine(t, api.Op{Kind: api.Poll, User: name, Users: []string{name}}, `poll`)
	checkLine(t, api.Op{Kind: api.Close, User: name, Users: []string{name}}, `close`)
	checkLine(t, api.Op{User: name, Users: []string{name}}, `bad`)
}

// 11.1: names are quoted.
func TestLineNames(t *testing.T) {
	for _, q := range quotes {
		checkNames(t, q.name, q.quoted)
	}
}

// 11.1: names are quoted as the library does it.
func TestLineNamesOfAllBytes(t *testing.T) {
	for _, name := range bytewise() {
		checkNames(t, name, strconv.Quote(name))
	}
}

// 11.1: a Batch of no users, of one, of several, of one twice, and of many.
func TestLineOfBatch(t *testing.T) {
	cases := []struct {
		users []string
		want  string
	}{
		{nil, `batch`},
		{[]string{}, `batch`},
		{[]string{""}, `batch ""`},
		{[]string{"ann"}, `batch "ann"`},
		{[]string{"ann", "ann"}, `batch "ann" "ann"`},
		{[]string{"bob", "ann", "cid"}, `batch "bob" "ann" "cid"`},
		{[]string{"ann", "", "ann", ""}, `batch "ann" "" "ann" ""`},
		{[]string{"a b", `c" "d`, "\n"}, `batch "a b" "c\" \"d" "\n"`},
		{[]string{"8", "7", "6", "5", "4", "3", "2", "1"}, `batch "8" "7" "6" "5" "4" "3" "2" "1"`},
	}
	for _, c := range cases {
		checkLine(t, api.Op{Kind: api.Batch, Users: c.users}, c.want)
	}
	for n := range 300 {
		checkLine(t, api.Op{Kind: api.Batch, User: "u", Users: slices.Repeat([]string{"x"}, n)}, `batch`+strings.Repeat(` "x"`, n))
	}
}
