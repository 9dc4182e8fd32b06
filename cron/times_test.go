package cron

import (
	"testing"
	"time"
)

// P4.4: the examples, and the edges of times.
func TestMatches(t *testing.T) {
	for _, c := range []struct {
		s    string
		at   int
		want bool
	}{
		{"30 2 * * *", 959400, true}, {"30 2 * * *", 959401, false}, {"30 2 * * *", 959399, false}, {"30 2 * * *", 959460, false}, {"30 2 * * *", 959400 + 3600, false},
		{"* * * * *", 0, true}, {"* * * * *", 59, false}, {"* * * * *", 60, true}, {"* * * * *", -60, false}, {"* * * * *", -1, false}, {"* * * * *", -1 << 63, false},
		{"* * * * *", maxTime - 4, true}, {"* * * * *", maxTime, false}, {"* * * * *", maxTime + 56, false}, {"* * * * *", 1<<63 - 8, false}, {"* * * * *", 1<<63 - 1, false},
		{"45 7 19 6 2", maxTime - 4, true}, {"45 7 19 6 *", maxTime - 4, true}, {"45 7 * 6 2", maxTime - 4, true}, {"45 7 * 6 3", maxTime - 4, false}, {"45 7 18 6 *", maxTime - 4, false},
		{"0 0 1 1 4", 0, true}, {"0 0 1 1 *", 0, true}, {"0 0 * 1 4", 0, true}, {"0 0 2 1 4", 0, true}, {"0 0 1 1 5", 0, true}, {"0 0 2 1 5", 0, false},
		{"0 0 2 1 *", 0, false}, {"0 0 * 1 5", 0, false}, {"0 0 * 2 *", 0, false}, {"1 0 * * *", 0, false}, {"0 1 * * *", 0, false},
		// A set is whole by its values, however it was written.
		{"0 0 2 1 0-6", 0, false}, {"0 0 2 1 */1", 0, false}, {"0 0 2 1 4,*", 0, false}, {"0 0 1-31 1 5", 0, false}, {"0 0 1-30,31 1 5", 0, false}, {"0 0 1-30 1 5", 0, true}, {"0 0 2 1 1-6", 0, true},
	} {
		if got := parsed(t, c.s).Matches(c.at); got != c.want {
			t.Errorf("P4.4: %q: Matches(%d): %v", c.s, c.at, got)
		}
	}
}

// P4.4: each day of six years, the day's and the weekday's sets whole or not.
func TestMatchesDays(t *testing.T) {
	for _, s := range []string{
		"0 0 * * *", "0 0 13 * *", "0 0 * * 5", "0 0 13 * 5", "0 0 */2 * */2", "0 0 31 * 0-5", "0 0 2-31 * 0-6", "0 0 1-31 2 1-6", "0 0 29,30 2 3", "0 0 1-30 */5 0", "0 0 31 2,4 1,6",
	} {
		x, m := parsed(t, s), mustModel(s)
		for n := range 6 * 366 {
			if x.Matches(n*day) != m.matches(n*day) {
				t.Fatalf("P4.4: %q: Matches(%d): %v", s, n*day, x.Matches(n*day))
			}
		}
	}
}

// P4.4: each minute of a day, and the seconds about some.
func TestMatchesMinutes(t *testing.T) {
	for _, s := range []string{"* * * * *", "0 * * * *", "* 0 * * *", "5-50/15 */5 * * *", "59 23 * * *", "0,59 0,23 * * *"} {
		x, m := parsed(t, s), mustModel(s)
		for at := -61; at < day+61; at++ {
			if x.Matches(at) != m.matches(at) {
				t.Fatalf("P4.4: %q: Matches(%d): %v", s, at, x.Matches(at))
			}
		}
	}
}

// P4.4: expressions and times of chance.
func TestMatchesByChance(t *testing.T) {
	r := chance()
	for range 3000 {
		s := someText(r)
		x, m := parsed(t, s), mustModel(s)
		for _, at := range []int{r.Intn(1 << 32), r.Intn(1<<32) / 60 * 60, r.Intn(maxTime) / 60 * 60, r.Intn(cycle) / day * day} {
			if x.Matches(at) != m.matches(at) {
				t.Fatalf("P4.4: %q: Matches(%d): %v", s, at, x.Matches(at))
			}
		}
	}
}

// searched holds Next and Last against what is wanted, -1 for none.
func searched(t *testing.T, x *Expr, at, next, last int) {
	t.Helper()
	if got, ok := x.Next(at); got != max(next, 0) || ok != (next >= 0) {
		t.Errorf("P4.5: %q: Next(%d): %d, %v; want %d", x.Text(), at, got, ok, next)
	}
	if got, ok := x.Last(at); got != max(last, 0) || ok != (last >= 0) {
		t.Errorf("P4.6: %q: Last(%d): %d, %v; want %d", x.Text(), at, got, ok, last)
	}
}

// P4.5, P4.6: the chapter's examples, and the edges.
func TestSearch(t *testing.T) {
	const none = -1
	for _, c := range []struct {
		s              string
		at, next, last int
	}{
		{"30 2 * * *", 1000000, 1045800, 959400}, {"30 2 * * *", 959399, 959400, 873000}, {"30 2 * * *", 959400, 1045800, 959400},
		{"30 2 * * *", 8999, 9000, none}, {"30 2 * * *", 9000, 95400, 9000},
		{"* * * * *", -7, 0, none}, {"* * * * *", -1, 0, none}, {"* * * * *", -1 << 63, 0, none}, {"* * * * *", 0, 60, 0}, {"* * * * *", 59, 60, 0}, {"* * * * *", 60, 120, 60},
		{"* * * * *", maxTime - 5, maxTime - 4, maxTime - 64}, {"* * * * *", maxTime - 64, maxTime - 4, maxTime - 64}, {"* * * * *", maxTime - 4, none, maxTime - 4},
		{"* * * * *", maxTime, none, maxTime - 4}, {"* * * * *", maxTime + 1, none, maxTime - 4}, {"* * * * *", 1<<63 - 1, none, maxTime - 4}, {"* * * * *", 1<<63 - 60, none, maxTime - 4},
		{"0 0 29 2 *", 0, 68169600, none}, {"0 0 29 2 *", 4107542400, 4233686400, 3981312000}, {"0 0 29 2 *", 68169599, 68169600, none}, {"0 0 29 2 *", 68169600, 194400000, 68169600},
		{"0 0 29 2 1", 0, 2764800, none}, {"0 0 29 2 */1", 0, 68169600, none},
		{"59 23 31 12 *", 0, 31535940, none}, {"59 23 31 12 *", 31535940, 63071940, 31535940}, {"59 23 31 12 *", 31535939, 31535940, none},
		{"0 0 1 1 *", 0, 31536000, 0}, {"0 0 1 1 *", -1, 0, none}, {"0 0 1 1 *", 31535999, 31536000, 0}, {"0 0 1 1 *", 31536000, 63072000, 31536000},
		// The last day is a Tuesday, 19 June, 07:45:04.
		{"45 7 19 6 *", 1<<63 - 1, none, maxTime - 4}, {"46 7 19 6 *", maxTime, none, maxTime + 56 - 365*day}, {"45 7 19 6 *", maxTime - 5, maxTime - 4, maxTime - 4 - 365*day},
		{"0 8 * * *", maxTime - day, maxTime - 4 + 900 - day, maxTime - 4 + 900 - 2*day}, {"0 8 * * *", maxTime - 4 + 900 - day, none, maxTime - 4 + 900 - day},
		{"0 0 20 6 *", maxTime - 300*day, none, maxTime - (7*60+45)*60 - 4 - 364*day}, {"0 0 * * 3", maxTime, none, maxTime - (7*60+45)*60 - 4 - 6*day},
	} {
		searched(t, parsed(t, c.s), c.at, c.next, c.last)
	}
}

// P4.5, P4.6: where nothing matches, whenever it is asked, and at once.
func TestSearchNever(t *testing.T) {
	begin := time.Now()
	r := chance()
	for _, s := range []string{"0 0 30 2 *", "* * 31 2 *", "0 0 30-31 2 0-6", "0 0 31 4,6,9,11 *", "* * 31 2-6/2,9-11/2 */1", "59 23 30,31 2 *"} {
		x := parsed(t, s)
		for _, at := range append(someTimes(r), 1000000000000, 1<<61) {
			searched(t, x, at, -1, -1)
			if x.Matches(at) || x.Matches(at/60*60) {
				t.Errorf("P4.4: %q: Matches(%d)", s, at)
			}
		}
	}
	// A weekday is enough, beside a day that never comes.
	searched(t, parsed(t, "0 0 30 2 1"), 0, 2764800, -1)
	if took := time.Since(begin); took > 10*time.Second {
		t.Errorf("P4.7: what no time matches was told in %v", took)
	}
}

// P4.5, P4.6: against the model, about the ends of times, months and years.
func TestSearchAsModel(t *testing.T) {
	r := chance()
	for _, s := range []string{
		"* * * * *", "0 0 * * *", "59 23 * * *", "0 0 1 * *", "59 23 31 * *", "0 0 1 1 *", "59 23 31 12 *", "0 0 29 2 *", "59 23 29 2 *", "30 12 28-31 2 *",
		"0 0 31 * *", "0 0 30 2,4 *", "0 0 * 2 1", "*/7 */5 */9 */4 */3", "0 0 29 2 3", "15 6 31 1,2 0", "0-59/59 0-23/23 * * 6", "17 5 28-31/3 2,3 *", "0 0 31 */3 0-5", "1 1 1 1 1",
	} {
		x, m := parsed(t, s), mustModel(s)
		for _, at := range someTimes(r) {
			searched(t, x, at, m.next(at), m.last(at))
		}
	}
	for range 100 {
		s := someText(r)
		x, m := parsed(t, s), mustModel(s)
		for range 5 {
			at := []int{r.Intn(10 * 366 * day), r.Intn(2 * cycle), maxTime - r.Intn(10*366*day), r.Intn(maxTime)}[r.Intn(4)]
			searched(t, x, at, m.next(at), m.last(at))
		}
	}
}

// P4.5, P4.6, P4.7: one time behind another, through 400 years and some more:
// all that match and no other, ahead and back.
func TestSearchAllYears(t *testing.T) {
	for _, s := range []string{"0 0 31 * *", "0 12 29 2 *", "0 0 13 * 5", "59 23 * 12 0", "0 0 29 2 0,6", "0 0 1 3 *", "30 6 31 12 *"} {
		x, m := parsed(t, s), mustModel(s)
		var want []int
		for n := range 405 * 366 {
			if !m.onDay(n) {
				continue
			}
			for minute := range 1440 {
				if at := n*day + minute*60; m[0][minute%60] && m[1][minute/60] {
					want = append(want, at)
				}
			}
		}
		at := -1
		for i, w := range want {
			got, ok := x.Next(at)
			if !ok || got != w {
				t.Fatalf("P4.5: %q: Next(%d): %d, %v; want %d", s, at, got, ok, w)
			}
			back, ok := x.Last(w - 1)
			if i == 0 && ok || i > 0 && (!ok || back != at) {
				t.Fatalf("P4.6: %q: Last(%d): %d, %v; want %d", s, w-1, back, ok, at)
			}
			at = w
		}
	}
}

// P4.7: nothing matches between; and 400 years later it is the same.
func TestWhatFollows(t *testing.T) {
	r := chance()
	for range 300 {
		s := someText(r)
		x := parsed(t, s)
		at := r.Intn(1 << 36)
		next, ok := x.Next(at)
		last, also := x.Last(at)
		if ok && (next <= at || !x.Matches(next)) || also && (last > at || last < 0 || !x.Matches(last)) {
			t.Fatalf("P4.7: %q at %d: %d, %d", s, at, next, last)
		}
		for range 200 {
			between := at + 1 + r.Intn(max(next-at-1, 1))
			if ok && between < next && (x.Matches(between) || between/60*60 > at && x.Matches(between/60*60)) {
				t.Fatalf("P4.7: %q: between %d and %d: %d", s, at, next, between)
			}
			between = last + 1 + r.Intn(max(at-last, 1))
			if also && between <= at && (x.Matches(between) || between/60*60 > last && x.Matches(between/60*60)) {
				t.Fatalf("P4.7: %q: between %d and %d: %d", s, last, at, between)
			}
		}
		if ok && !x.Matches(next+cycle) || also && !x.Matches(last+cycle) {
			t.Fatalf("P4.7: %q: 400 years behind %d or %d", s, next, last)
		}
		for range 50 {
			minute := r.Intn(maxTime-cycle) / 60 * 60
			if x.Matches(minute) != x.Matches(minute+cycle) {
				t.Fatalf("P4.7: %q: %d and 400 years later", s, minute)
			}
		}
		if later, found := x.Next(at + cycle); found != ok || ok && later != next+cycle {
			t.Fatalf("P4.7: %q: Next(%d): %d, %v", s, at+cycle, later, found)
		}
	}
	// As far as both are times: the later one is not.
	if x := parsed(t, "* * * * *"); !x.Matches(maxTime-4) || x.Matches(maxTime-4+cycle) {
		t.Errorf("P4.7: 400 years behind the last minute")
	}
}
