package tick_test

import (
	"math"
	"testing"

	"doorman/api"
	"doorman/tick"
)

const top = math.MaxUint64

// edges are numbers around which sums begin to be too great, and ordinary ones.
func edges() []uint64 {
	return []uint64{0, 1, 2, 5, 1000, 1<<32 - 1, 1 << 32, 1<<63 - 1, 1 << 63, 1<<63 + 1, top - 5, top - 2, top - 1, top}
}

// times are all times made of edges, open and closed.
func times() []api.Time {
	var l []api.Time
	for _, now := range edges() {
		for _, seq := range edges() {
			l = append(l, api.Time{Now: now, Seq: seq}, api.Time{Now: now, Seq: seq, Closed: true})
		}
	}
	return l
}

// 1.1
func TestAdd(t *testing.T) {
	cases := []struct{ a, b, want uint64 }{
		{0, 0, 0},
		{0, 7, 7},
		{7, 0, 7},
		{1, 2, 3},
		{1 << 32, 1 << 32, 1 << 33},
		{1 << 63, 1<<63 - 2, top - 1},
		{1 << 63, 1<<63 - 1, top},
		{1 << 63, 1 << 63, top},
		{top - 2, 1, top - 1},
		{top - 1, 1, top},
		{top - 1, 2, top},
		{top - 1, 5, top},
		{top - 5, 5, top},
		{top - 5, 6, top},
		{top, 0, top},
		{0, top, top},
		{top, 1, top},
		{1, top, top},
		{top, top, top},
	}
	for _, c := range cases {
		if got := tick.Add(c.a, c.b); got != c.want {
			t.Errorf("Add(%d, %d) = %d, not %d", c.a, c.b, got, c.want)
		}
	}
}

// 1.1: held against the difference, which can't wrap round where it is looked at.
func TestAddOfEdges(t *testing.T) {
	for _, a := range edges() {
		for _, b := range edges() {
			got := tick.Add(a, b)
			room := uint64(top) - a
			if b > room && got != top {
				t.Errorf("Add(%d, %d) = %d, not the greatest number", a, b, got)
			}
			if b <= room && (got < a || got-a != b) {
				t.Errorf("Add(%d, %d) = %d, not the sum", a, b, got)
			}
			if other := tick.Add(b, a); other != got {
				t.Errorf("Add(%d, %d) = %d, but turned round %d", a, b, got, other)
			}
		}
	}
}

// 1.1
func TestLate(t *testing.T) {
	cases := []struct {
		now, until uint64
		want       bool
	}{
		{0, 0, true},
		{0, 1, false},
		{1, 0, true},
		{4, 5, false},
		{5, 5, true},
		{6, 5, true},
		{1 << 63, 1<<63 - 1, true},
		{1<<63 - 1, 1 << 63, false},
		{0, top, false},
		{top - 1, top, false},
		{top, top, true},
		{top, 0, true},
	}
	for _, c := range cases {
		if got := tick.Late(c.now, c.until); got != c.want {
			t.Errorf("Late(%d, %d) = %v", c.now, c.until, got)
		}
	}
}

// 1.1
func TestPass(t *testing.T) {
	cases := []struct {
		at   api.Time
		by   uint64
		want api.Time
	}{
		{api.Time{}, 0, api.Time{}},
		{api.Time{}, top, api.Time{Now: top}},
		{api.Time{Now: 3, Seq: 1}, 4, api.Time{Now: 7, Seq: 1}},
		{api.Time{Now: 3, Seq: 1, Closed: true}, 4, api.Time{Now: 7, Seq: 1, Closed: true}},
		{api.Time{Now: 9, Seq: top}, 0, api.Time{Now: 9, Seq: top}},
		{api.Time{Now: top - 4, Seq: 2}, 4, api.Time{Now: top, Seq: 2}},
		{api.Time{Now: top - 4, Seq: 2}, 5, api.Time{Now: top, Seq: 2}},
		{api.Time{Now: top, Seq: 2, Closed: true}, 1, api.Time{Now: top, Seq: 2, Closed: true}},
		{api.Time{Now: top}, top, api.Time{Now: top}},
	}
	for _, c := range cases {
		if got := tick.Pass(c.at, c.by); got != c.want {
			t.Errorf("Pass(%v, %d) = %v, not %v", c.at, c.by, got, c.want)
		}
	}
}

// 1.1
func TestTake(t *testing.T) {
	cases := []struct{ at, want api.Time }{
		{api.Time{}, api.Time{Seq: 1}},
		{api.Time{Now: 7, Seq: 1}, api.Time{Now: 7, Seq: 2}},
		{api.Time{Now: 7, Seq: 1, Closed: true}, api.Time{Now: 7, Seq: 2, Closed: true}},
		{api.Time{Now: top, Seq: top - 2}, api.Time{Now: top, Seq: top - 1}},
		{api.Time{Now: 7, Seq: top - 1}, api.Time{Now: 7, Seq: top}},
		{api.Time{Now: 7, Seq: top}, api.Time{Now: 7, Seq: top}},
		{api.Time{Now: 7, Seq: top, Closed: true}, api.Time{Now: 7, Seq: top, Closed: true}},
	}
	for _, c := range cases {
		got, seq := tick.Take(c.at)
		if got != c.want || seq != c.want.Seq {
			t.Errorf("Take(%v) = %v, %d, not %v", c.at, got, seq, c.want)
		}
	}
}

// 1.1
func TestShut(t *testing.T) {
	for _, at := range times() {
		want := api.Time{Now: at.Now, Seq: at.Seq, Closed: true}
		got := tick.Shut(at)
		if got != want {
			t.Errorf("Shut(%v) = %v", at, got)
		}
		if again := tick.Shut(got); again != want {
			t.Errorf("Shut(%v) = %v", got, again)
		}
	}
}

// 1.1: each call changes its own field alone, on a closed table's time too.
func TestOtherFieldsStay(t *testing.T) {
	for _, at := range times() {
		taken, seq := tick.Take(at)
		if want := (api.Time{Now: at.Now, Seq: tick.Add(at.Seq, 1), Closed: at.Closed}); taken != want || seq != want.Seq {
			t.Errorf("Take(%v) = %v, %d", at, taken, seq)
		}
		for _, by := range edges() {
			want := api.Time{Now: tick.Add(at.Now, by), Seq: at.Seq, Closed: at.Closed}
			if got := tick.Pass(at, by); got != want {
				t.Errorf("Pass(%v, %d) = %v", at, by, got)
			}
		}
	}
}

// 1.2
func TestTimeNeverGoesBack(t *testing.T) {
	for _, at := range times() {
		taken, seq := tick.Take(at)
		shut := tick.Shut(at)
		if taken.Now < at.Now || shut.Now < at.Now {
			t.Errorf("from %v time goes back to %v or %v", at, taken, shut)
		}
		if seq < at.Seq || shut.Seq < at.Seq {
			t.Errorf("from %v writes go back to %d or %v", at, seq, shut)
		}
		for _, by := range edges() {
			if got := tick.Pass(at, by); got.Now < at.Now || got.Seq < at.Seq {
				t.Errorf("Pass(%v, %d) = %v goes back", at, by, got)
			}
		}
	}
}

// 1.2
func TestLateStaysLate(t *testing.T) {
	for _, at := range times() {
		for _, until := range edges() {
			if tick.Late(at.Now, until) {
				checkStaysLate(t, at, until)
			}
		}
	}
}

func checkStaysLate(t *testing.T, at api.Time, until uint64) {
	t.Helper()
	taken, _ := tick.Take(at)
	after := []api.Time{taken, tick.Shut(at)}
	for _, by := range edges() {
		after = append(after, tick.Pass(at, by))
	}
	for _, then := range after {
		if !tick.Late(then.Now, until) {
			t.Errorf("%d is late at %v, but not at %v", until, at, then)
		}
	}
}

// 1.2: at the end of time everything is late, and stays so.
func TestEndOfTime(t *testing.T) {
	at := api.Time{Now: top - 3}
	for range 10 {
		at = tick.Pass(at, 2)
	}
	if at != (api.Time{Now: top}) {
		t.Errorf("time ended at %v", at)
	}
	for _, until := range edges() {
		if !tick.Late(at.Now, until) {
			t.Errorf("%d isn't late at the end of time", until)
		}
	}
}
