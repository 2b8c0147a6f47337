package hash_test

import (
	"hash/fnv"
	"math"
	"slices"
	"strconv"
	"strings"
	"testing"

	"doorman/api"
	"doorman/hash"
)

// texts are no bytes, names of each length up to beyond the limit, bytes that are no UTF-8, and ordinary names.
func texts() []string {
	l := []string{"", "a", "b", "u", "foobar", "ann", "bob", "\x00", "\x00\x00", "\xff", "\xff\x00\x80", "é", "日本", "Ann", " a", "a "}
	for n := range 40 {
		l = append(l, strings.Repeat("x", n), strings.Repeat("\xfe", n))
	}
	for n := range 300 {
		l = append(l, "user"+strconv.Itoa(n))
	}
	return append(l, strings.Repeat("long", 5000))
}

// counts are numbers of stripes, those that may not be among them.
func counts() []int {
	return []int{math.MinInt, -8, -1, 0, 1, 2, 3, 4, 5, 6, 7, 8, 9, 10, 16, 255, 1 << 31, 1<<31 + 1, math.MaxInt - 1, math.MaxInt}
}

// names are users of whom each of 8 stripes has some.
func names() []string {
	var l []string
	for n := range 64 {
		l = append(l, "user"+strconv.Itoa(n))
	}
	return l
}

// 2.1
func TestOf(t *testing.T) {
	cases := []struct {
		text string
		want uint64
	}{
		{"", 14695981039346656037},
		{"a", 12638187200555641996},
		{"b", 0xaf63df4c8601f1a5},
		{"foobar", 0x85944171f73967e8},
		{"\x00", 0xaf63bd4c8601b7df},
		{"\xff", 0xaf64724c8602eb6e},
		{"0123456789abcdef", 0x2e373913e5ad677d},
		{"0123456789abcdefg", 0x353d16cf45a6312e},
	}
	for _, c := range cases {
		if got := hash.Of(c.text); got != c.want {
			t.Errorf("Of(%q) = %#x, not %#x", c.text, got, c.want)
		}
	}
}

// 2.1: held against the library's own.
func TestOfIsFNV1a(t *testing.T) {
	for _, text := range texts() {
		h := fnv.New64a()
		h.Write([]byte(text))
		if got := hash.Of(text); got != h.Sum64() {
			t.Errorf("Of(%.40q) = %#x, not %#x", text, got, h.Sum64())
		}
	}
}

// 2.1
func TestStripe(t *testing.T) {
	cases := []struct {
		user    string
		n, want int
	}{
		{"", 8, 5},
		{"a", 8, 4},
		{"foobar", 8, 0},
		{"a", 1, 0},
		{"a", 2, 0},
		{"b", 2, 1},
		{"a", 10, 6},
		{"a", 1000, 996},
		{"a", 0, 0},
		{"a", -1, 0},
		{"a", -10, 0},
		{"a", math.MinInt, 0},
		{"", 0, 0},
	}
	for _, c := range cases {
		if got := hash.Stripe(c.user, c.n); got != c.want {
			t.Errorf("Stripe(%q, %d) = %d, not %d", c.user, c.n, got, c.want)
		}
	}
}

// 2.1: hashes of 2^63 and more are among the texts', and numbers of stripes beyond 32 bits and below 1.
func TestStripeIsWhatIsLeft(t *testing.T) {
	for _, text := range texts() {
		for _, n := range counts() {
			want := uint64(0)
			if n >= 1 {
				want = hash.Of(text) % uint64(n)
			}
			if got := hash.Stripe(text, n); got < 0 || uint64(got) != want {
				t.Errorf("Stripe(%.40q, %d) = %d, not %d", text, n, got, want)
			}
		}
	}
}

// 2.1: bytes are counted, not runes.
func TestRight(t *testing.T) {
	cases := []struct {
		user string
		want bool
	}{
		{"", false},
		{"a", true},
		{"\x00", true},
		{"\xff", true},
		{" ", true},
		{"0123456789abcde", true},
		{"0123456789abcdef", true},
		{"0123456789abcdefg", false},
		{strings.Repeat("\xff", 16), true},
		{strings.Repeat("\xff", 17), false},
		{strings.Repeat("é", 8), true},
		{strings.Repeat("é", 9), false},
		{strings.Repeat("a", 1000), false},
	}
	for _, c := range cases {
		if got := hash.Right(c.user); got != c.want {
			t.Errorf("Right(%q) = %v", c.user, got)
		}
	}
}

// 2.1
func TestRightOfEachLength(t *testing.T) {
	for n := range 600 {
		want := n >= 1 && n <= api.MaxKey
		if got := hash.Right(strings.Repeat("u", n)); got != want {
			t.Errorf("Right of %d bytes = %v", n, got)
		}
	}
}

// 2.2
func TestStripes(t *testing.T) {
	cases := []struct {
		users []string
		n     int
		want  []int
	}{
		{nil, 8, nil},
		{[]string{}, 8, nil},
		{nil, 0, nil},
		{[]string{"a"}, 8, []int{4}},
		{[]string{"a", "a"}, 8, []int{4}},
		{[]string{"foobar", "a", "foobar", ""}, 8, []int{0, 4, 5}},
		{[]string{"", "a", "foobar"}, 8, []int{0, 4, 5}},
		{[]string{"foobar", "a", ""}, 1, []int{0}},
		{[]string{"foobar", "a", ""}, 0, []int{0}},
		{[]string{"foobar", "a", ""}, -3, []int{0}},
		{[]string{"foobar", "a", ""}, math.MinInt, []int{0}},
		{[]string{"a", "b"}, 2, []int{0, 1}},
		{[]string{"b", "a"}, 2, []int{0, 1}},
		{[]string{"0123456789abcdefg"}, 8, []int{6}},
		{names(), 8, []int{0, 1, 2, 3, 4, 5, 6, 7}},
		{names(), 5, []int{0, 1, 2, 3, 4}},
		{names(), 9, []int{0, 1, 2, 3, 4, 5, 6, 7}},
		{[]string{"a"}, 1000, nil},
		{[]string{"a", "foobar"}, math.MaxInt, nil},
	}
	for _, c := range cases {
		if got := hash.Stripes(c.users, c.n); !slices.Equal(got, c.want) {
			t.Errorf("Stripes(%q, %d) = %v, not %v", c.users, c.n, got, c.want)
		}
	}
}

// 2.2: of stripes beyond 8, those below 8 are told and the others left out, though both are met.
func TestStripesBeyondTheLimit(t *testing.T) {
	users := []string{userIn(t, 8, 16), userIn(t, 7, 16), userIn(t, 15, 16), userIn(t, 0, 16), userIn(t, 9, 16)}
	if got := hash.Stripes(users, 16); !slices.Equal(got, []int{0, 7}) {
		t.Errorf("Stripes of 16 = %v, not [0 7]", got)
	}
}

// userIn finds a user in that one of n stripes.
func userIn(t *testing.T, stripe, n int) string {
	t.Helper()
	for i := range 10000 {
		if user := "u" + strconv.Itoa(i); hash.Of(user)%uint64(n) == uint64(stripe) {
			return user
		}
	}
	t.Fatalf("no user in stripe %d of %d", stripe, n)
	return ""
}

// 2.2: a stripe is told if, and only if, one of the users is in it.
func TestStripesAreThoseOfTheUsers(t *testing.T) {
	all := texts()
	for _, n := range counts() {
		for from := 0; from+7 <= len(all); from += 5 {
			users := all[from : from+7]
			var want []int
			for stripe := range api.MaxStripes {
				in := func(user string) bool { return hash.Stripe(user, n) == stripe }
				if slices.ContainsFunc(users, in) {
					want = append(want, stripe)
				}
			}
			if got := hash.Stripes(users, n); !slices.Equal(got, want) {
				t.Errorf("Stripes(%.200q, %d) = %v, not %v", users, n, got, want)
			}
		}
	}
}

// 2.2: users are left as they were, and each answer is memory of its own.
func TestStripesShareNothing(t *testing.T) {
	users := names()
	first := hash.Stripes(users, 8)
	second := hash.Stripes(users, 8)
	for i := range first[:cap(first)] {
		first[:cap(first)][i] = -1
	}
	if !slices.Equal(second, []int{0, 1, 2, 3, 4, 5, 6, 7}) {
		t.Errorf("an answer changed with an earlier one: %v", second)
	}
	if third := hash.Stripes(users, 8); !slices.Equal(third, second) {
		t.Errorf("Stripes = %v behind a changed answer", third)
	}
	if !slices.Equal(users, names()) {
		t.Errorf("the users were changed: %q", users)
	}
}

// 2.3
func TestUserInOneStripe(t *testing.T) {
	for _, user := range texts() {
		for _, n := range counts() {
			stripe := hash.Stripe(user, n)
			if stripe < 0 || stripe >= max(n, 1) {
				t.Errorf("Stripe(%.40q, %d) = %d: there is no such stripe", user, n, stripe)
			}
			if again := hash.Stripe(strings.Clone(user), n); again != stripe {
				t.Errorf("Stripe(%.40q, %d) = %d, then %d", user, n, stripe, again)
			}
			got := hash.Stripes([]string{user, strings.Clone(user), user}, n)
			if stripe < api.MaxStripes && !slices.Equal(got, []int{stripe}) {
				t.Errorf("Stripes of %.40q alone, of %d = %v, not its stripe %d", user, n, got, stripe)
			}
			if stripe >= api.MaxStripes && len(got) != 0 {
				t.Errorf("Stripes of %.40q alone, of %d = %v, but it is in %d", user, n, got, stripe)
			}
		}
	}
}

// 2.3: beside whomever a user is asked for, its stripe is the same.
func TestUserInOneStripeBesideOthers(t *testing.T) {
	users := names()
	for n := 1; n <= api.MaxStripes; n++ {
		for i, user := range users {
			got := hash.Stripes(users[i:], n)
			if !slices.Contains(got, hash.Stripe(user, n)) {
				t.Errorf("Stripes(%q, %d) = %v without stripe %d of %q", users[i:], n, got, hash.Stripe(user, n), user)
			}
			if len(got) > len(users)-i {
				t.Errorf("Stripes(%q, %d) = %v: more stripes than users", users[i:], n, got)
			}
		}
	}
}
