package calendar

import (
	"fmt"
	"math"
	"math/big"
	"math/rand"
	"testing"
	"time"

	"escapement/api"
)

const (
	day     = 86400
	maxYear = 146138514283
)

func chance() *rand.Rand { return rand.New(rand.NewSource(3)) }

// told tells a date with its weekday as the chapter's examples do.
func told(d api.Date) string {
	return fmt.Sprintf("%d-%02d-%02d %02d:%02d:%02d, %d", d.Year, d.Month, d.Day, d.Hour, d.Minute, d.Second, d.Weekday)
}

func date(year, month, day, hour, minute, second, weekday int) api.Date {
	return api.Date{Year: year, Month: month, Day: day, Hour: hour, Minute: minute, Second: second, Weekday: weekday}
}

// end is the date of the last time.
func end() api.Date { return date(maxYear, 6, 19, 7, 45, 4, 2) }

// slowLeap and slowDays are the chapter's words, with numbers of any length.
func slowLeap(year int) bool {
	divided := func(by int64) bool {
		return new(big.Int).Mod(big.NewInt(int64(year)), big.NewInt(by)).Sign() == 0
	}
	return divided(400) || divided(4) && !divided(100)
}

func slowDays(year, month int) int {
	switch month {
	case 4, 6, 9, 11:
		return 30
	case 2:
		if slowLeap(year) {
			return 29
		}
		return 28
	}
	return 31
}

// nextDay is the chapter's P3.7: the same hour on the next day.
func nextDay(d api.Date) api.Date {
	d.Weekday = (d.Weekday + 1) % 7
	d.Day++
	if d.Day > slowDays(d.Year, d.Month) {
		d.Day = 1
		d.Month++
	}
	if d.Month > 12 {
		d.Month = 1
		d.Year++
	}
	return d
}

func nextSecond(d api.Date) api.Date {
	d.Second++
	if d.Second == 60 {
		d.Second = 0
		d.Minute++
	}
	if d.Minute == 60 {
		d.Minute = 0
		d.Hour++
	}
	if d.Hour == 24 {
		d.Hour = 0
		return nextDay(d)
	}
	return d
}

// ahead tells whether a lies ahead of b.
func ahead(a, b api.Date) bool {
	x := [6]int{a.Year, a.Month, a.Day, a.Hour, a.Minute, a.Second}
	y := [6]int{b.Year, b.Month, b.Day, b.Hour, b.Minute, b.Second}
	for i := range x {
		if x[i] != y[i] {
			return x[i] < y[i]
		}
	}
	return false
}

// library is the date that Go's own library has for a time.
func library(t int) api.Date {
	l := time.Unix(int64(t), 0).UTC()
	return date(l.Year(), int(l.Month()), l.Day(), l.Hour(), l.Minute(), l.Second(), int(l.Weekday()))
}

// slowRight is P3.4's words, part by part, instead of by a time's date.
func slowRight(d api.Date) bool {
	return d.Year >= 1970 && d.Year <= maxYear && d.Month >= 1 && d.Month <= 12 &&
		d.Day >= 1 && d.Day <= slowDays(d.Year, d.Month) && d.Hour >= 0 && d.Hour <= 23 &&
		d.Minute >= 0 && d.Minute <= 59 && d.Second >= 0 && d.Second <= 59 && !ahead(end(), d)
}

// isAt asks At for a date that may be.
func isAt(t *testing.T, at int, want api.Date) {
	t.Helper()
	if d, code := At(at); d != want || code != api.OK {
		t.Fatalf("At(%d): %s, code %d; want %s", at, told(d), code, told(want))
	}
}

// isTime asks Time for a date that may be.
func isTime(t *testing.T, d api.Date, want int) {
	t.Helper()
	if n, code := Time(d); n != want || code != api.OK {
		t.Fatalf("Time(%s): %d, code %d; want %d", told(d), n, code, want)
	}
}

func isNoDate(t *testing.T, d api.Date) {
	t.Helper()
	if n, code := Time(d); n != 0 || code != api.ErrCalendarDate {
		t.Errorf("Time(%s): %d, code %d; want 0 and ErrCalendarDate", told(d), n, code)
	}
}

// mustAt is the date at a time that may be.
func mustAt(t *testing.T, at int) api.Date {
	t.Helper()
	d, code := At(at)
	if code != api.OK {
		t.Fatalf("At(%d): code %d", at, code)
	}
	return d
}

func mustTime(t *testing.T, d api.Date) int {
	t.Helper()
	n, code := Time(d)
	if code != api.OK {
		t.Fatalf("Time(%s): code %d", told(d), code)
	}
	return n
}

// someTimes are the edges of times, and times of chance of every length, each
// with those a second and a day beside it.
func someTimes() []int {
	r := chance()
	at := []int{
		0, 59, 60, 3599, 3600, day - 1, day, 31*day - 1, 365 * day,
		68169600, 94694400, 951868800, 1000000000, 4107542400, 12622780800,
		146097 * day, 146096 * day, 146098 * day, math.MaxInt32, math.MaxUint32,
		api.MaxTime, api.MaxTime / 2, api.MaxTime - 146097*day,
	}
	for range 20000 {
		at = append(at, int(r.Uint64()>>2>>r.Intn(40)))
	}
	var out []int
	for _, x := range at {
		for _, by := range []int{0, -1, 1, -day, day} {
			if y := x + by; y >= 0 && y <= api.MaxTime {
				out = append(out, y)
			}
		}
	}
	return out
}

// P3.1

func TestLeapExamples(t *testing.T) {
	for _, c := range []struct {
		year int
		want bool
	}{
		{2000, true}, {2100, false}, {1900, false}, {2400, true}, {1972, true}, {1970, false}, {1971, false}, {2001, false}, {2002, false},
		{0, true}, {-1, false}, {-2, false}, {-3, false}, {-4, true}, {-96, true}, {-100, false}, {-200, false}, {-300, false}, {-400, true}, {-404, true},
		{maxYear, false}, {maxYear + 1, true}, {math.MaxInt, false}, {math.MinInt, true}, {math.MinInt + 1, false}, {math.MinInt + 8, false}, {math.MaxInt - 7, false},
	} {
		if Leap(c.year) != c.want {
			t.Errorf("Leap(%d): %v", c.year, !c.want)
		}
	}
}

func TestLeapAllYears(t *testing.T) {
	for _, from := range []int{-2500, 0, 1500, maxYear - 1000, math.MinInt, math.MaxInt - 2500} {
		for i := range 2501 {
			if y := from + i; Leap(y) != slowLeap(y) {
				t.Errorf("Leap(%d): %v", y, Leap(y))
			}
		}
	}
}

// P3.2

func TestDays(t *testing.T) {
	short := [12]int{31, 28, 31, 30, 31, 30, 31, 31, 30, 31, 30, 31}
	for _, year := range []int{1970, 1971, 1972, 2000, 2024, 2100, 2200, 2300, 2400, maxYear - 83, maxYear - 3, maxYear - 1, maxYear} {
		for i, want := range short {
			if i == 1 && slowLeap(year) {
				want = 29
			}
			if n, code := Days(year, i+1); n != want || code != api.OK {
				t.Errorf("Days(%d, %d): %d, code %d; want %d", year, i+1, n, code, want)
			}
		}
	}
}

func TestDaysRefused(t *testing.T) {
	refused := func(year, month int) {
		if n, code := Days(year, month); n != 0 || code != api.ErrCalendarDate {
			t.Errorf("Days(%d, %d): %d, code %d", year, month, n, code)
		}
	}
	for _, year := range []int{1969, 1968, 1900, 0, -1, -4, -1970, maxYear + 1, maxYear + 2, math.MinInt, math.MaxInt} {
		for month := -1; month <= 14; month++ {
			refused(year, month)
		}
	}
	for _, month := range []int{0, 13, 14, -1, -2, -12, math.MinInt, math.MaxInt} {
		for _, year := range []int{1970, 1972, 2000, 2100, maxYear} {
			refused(year, month)
		}
	}
}

// P3.3 and P3.4, the chapter's examples.

func TestDateExamples(t *testing.T) {
	for _, c := range []struct {
		at int
		d  api.Date
	}{
		{0, date(1970, 1, 1, 0, 0, 0, 4)},
		{59, date(1970, 1, 1, 0, 0, 59, 4)},
		{60, date(1970, 1, 1, 0, 1, 0, 4)},
		{3599, date(1970, 1, 1, 0, 59, 59, 4)},
		{3600, date(1970, 1, 1, 1, 0, 0, 4)},
		{86399, date(1970, 1, 1, 23, 59, 59, 4)},
		{86400, date(1970, 1, 2, 0, 0, 0, 5)},
		{31*day - 1, date(1970, 1, 31, 23, 59, 59, 6)},
		{31 * day, date(1970, 2, 1, 0, 0, 0, 0)},
		{59*day - 1, date(1970, 2, 28, 23, 59, 59, 6)},
		{59 * day, date(1970, 3, 1, 0, 0, 0, 0)},
		{365*day - 1, date(1970, 12, 31, 23, 59, 59, 4)},
		{365 * day, date(1971, 1, 1, 0, 0, 0, 5)},
		{68169600, date(1972, 2, 29, 0, 0, 0, 2)},
		{94694399, date(1972, 12, 31, 23, 59, 59, 0)},
		{94694400, date(1973, 1, 1, 0, 0, 0, 1)},
		{951868799, date(2000, 2, 29, 23, 59, 59, 2)},
		{951868800, date(2000, 3, 1, 0, 0, 0, 3)},
		{1000000000, date(2001, 9, 9, 1, 46, 40, 0)},
		{4107542399, date(2100, 2, 28, 23, 59, 59, 0)},
		{4107542400, date(2100, 3, 1, 0, 0, 0, 1)},
		{12622780800, date(2370, 1, 1, 0, 0, 0, 4)},
		{api.MaxTime, end()},
	} {
		isAt(t, c.at, c.d)
		isTime(t, c.d, c.at)
	}
}

func TestAtRefused(t *testing.T) {
	for _, at := range []int{-1, -2, -day, math.MinInt, math.MinInt + 1, api.MaxTime + 1, api.MaxTime + 2, api.MaxTime + day, math.MaxInt, math.MaxInt - 1} {
		if d, code := At(at); d != (api.Date{}) || code != api.ErrCalendarTime {
			t.Errorf("At(%d): %s, code %d", at, told(d), code)
		}
	}
}

// TestAllDays goes through every day of many years as the chapter's words do,
// behind time 0 and ahead of the last time.
func TestAllDays(t *testing.T) {
	d, at := date(1970, 1, 1, 0, 0, 0, 4), 0
	for d.Year < 2800 {
		isAt(t, at, d)
		isTime(t, d, at)
		late := d
		late.Hour, late.Minute, late.Second = 23, 59, 59
		isAt(t, at+day-1, late)
		isTime(t, late, at+day-1)
		d, at = nextDay(d), at+day
	}
}

func TestAllDaysToTheLast(t *testing.T) {
	at, d := api.MaxTime-2*146097*day, end()
	d.Year -= 800
	for at < api.MaxTime {
		isAt(t, at, d)
		isTime(t, d, at)
		d, at = nextDay(d), at+day
	}
	if at != api.MaxTime || d != end() {
		t.Errorf("at %d: %s", at, told(d))
	}
}

func TestAtAsTheLibrary(t *testing.T) {
	for _, at := range someTimes() {
		isAt(t, at, library(at))
	}
}

// P3.4

func TestTimeLooksAtNoWeekday(t *testing.T) {
	for _, weekday := range []int{-1, 0, 1, 2, 3, 4, 5, 6, 7, 99, math.MinInt, math.MaxInt} {
		isTime(t, date(1972, 2, 29, 0, 0, 0, weekday), 68169600)
		isTime(t, date(1970, 1, 1, 0, 0, 0, weekday), 0)
		last := end()
		last.Weekday = weekday
		isTime(t, last, api.MaxTime)
		isNoDate(t, date(1973, 2, 29, 0, 0, 0, weekday))
	}
}

func TestNoDates(t *testing.T) {
	for _, d := range []api.Date{
		{}, date(1973, 2, 29, 0, 0, 0, 4), date(2100, 2, 29, 0, 0, 0, 1), date(2100, 2, 29, 12, 0, 0, 0),
		date(2000, 2, 30, 0, 0, 0, 0), date(1972, 2, 30, 0, 0, 0, 0), date(1970, 4, 31, 0, 0, 0, 0), date(1970, 1, 32, 0, 0, 0, 0), date(1970, 12, 32, 0, 0, 0, 0),
		date(1969, 12, 31, 23, 59, 59, 3), date(1969, 12, 31, 24, 0, 0, 4), date(1969, 12, 32, 0, 0, 0, 4), date(1969, 13, 1, 0, 0, 0, 4), date(1968, 2, 29, 0, 0, 0, 4),
		date(0, 1, 1, 0, 0, 0, 0), date(-1, 1, 1, 0, 0, 0, 0), date(-1970, 1, 1, 0, 0, 0, 0),
		date(1970, 1, 0, 0, 0, 0, 3), date(1970, 2, 0, 0, 0, 0, 6), date(1970, 1, 1, 24, 0, 0, 5), date(1970, 1, 1, 0, 60, 0, 4), date(1970, 1, 1, 0, 0, 60, 4),
		date(1970, 1, 2, -1, 0, 0, 4), date(1970, 1, 2, 0, -1, 0, 4), date(1970, 1, 2, 0, 0, -1, 4), date(1970, 1, 1, 0, 0, -1, 4),
		date(1970, 0, 32, 0, 0, 0, 0), date(1970, 13, 1, 0, 0, 0, 5), date(1971, 0, 1, 0, 0, 0, 0), date(1971, -1, 1, 0, 0, 0, 0),
		date(maxYear, 6, 19, 7, 45, 5, 2), date(maxYear, 6, 19, 7, 46, 0, 2), date(maxYear, 6, 19, 8, 0, 0, 2), date(maxYear, 6, 20, 0, 0, 0, 3),
		date(maxYear, 7, 1, 0, 0, 0, 0), date(maxYear, 12, 31, 23, 59, 59, 0), date(maxYear+1, 1, 1, 0, 0, 0, 0), date(maxYear+1, 6, 19, 7, 45, 4, 2),
	} {
		isNoDate(t, d)
	}
}

// TestNoDatesOfOnePart turns one part of a date at a time, also by so much
// that its seconds wrap round to the very time of the date.
func TestNoDatesOfOnePart(t *testing.T) {
	bad := []int{math.MinInt, math.MinInt + 1, math.MinInt + 4, -1 << 62, -1 << 32, -86400, -1, 60, 61, 86400, 1 << 31, 1 << 32, 1 << 57, 1 << 62, math.MaxInt - 1, math.MaxInt}
	// 2^57 days, 2^60 hours, 2^62 minutes: multiples of 2^64 seconds.
	round := []int{1 << 57, 1 << 58, 1 << 60, 1 << 61, 1 << 62, math.MinInt}
	for _, good := range []api.Date{date(1970, 1, 1, 0, 0, 0, 4), date(2000, 2, 29, 23, 59, 59, 2), end()} {
		mustTime(t, good)
		for i := range 6 {
			d := good
			part := []*int{&d.Year, &d.Month, &d.Day, &d.Hour, &d.Minute, &d.Second}[i]
			was := *part
			for _, *part = range bad {
				if !slowRight(d) { // some are years that may be
					isNoDate(t, d)
				}
			}
			for _, by := range round {
				*part = was + by
				isNoDate(t, d)
				*part = was - by
				isNoDate(t, d)
			}
		}
	}
}

// TestTimeOfAllDates asks for dates that may and may not be, each part at its
// edges and beyond them, all together.
func TestTimeOfAllDates(t *testing.T) {
	parts := [6][]int{
		{math.MinInt, 1968, 1969, 1970, 1971, 1972, 1999, 2000, 2100, 2400, maxYear - 3, maxYear - 1, maxYear, maxYear + 1, math.MaxInt},
		{-1, 0, 1, 2, 3, 4, 5, 6, 7, 8, 9, 10, 11, 12, 13, 14},
		{-1, 0, 1, 2, 18, 19, 20, 27, 28, 29, 30, 31, 32},
		{-1, 0, 7, 8, 23, 24}, {-1, 0, 44, 45, 59, 60}, {-1, 0, 4, 5, 59, 60},
	}
	for _, year := range parts[0] {
		for _, month := range parts[1] {
			for _, day := range parts[2] {
				tryTheDay(t, date(year, month, day, 0, 0, 0, 0), parts)
			}
		}
	}
}

func tryTheDay(t *testing.T, d api.Date, parts [6][]int) {
	t.Helper()
	for _, d.Hour = range parts[3] {
		for _, d.Minute = range parts[4] {
			for _, d.Second = range parts[5] {
				if !slowRight(d) {
					isNoDate(t, d)
					continue
				}
				l := time.Date(d.Year, time.Month(d.Month), d.Day, d.Hour, d.Minute, d.Second, 0, time.UTC)
				isTime(t, d, int(l.Unix()))
			}
		}
	}
}

// P3.5

func TestThereAndBack(t *testing.T) {
	r := chance()
	for _, at := range someTimes() {
		d := mustAt(t, at)
		isTime(t, d, at)
		other := d
		other.Weekday = r.Intn(20) - 5
		if back := mustAt(t, mustTime(t, other)); back != d {
			t.Fatalf("At of Time(%s): %s", told(other), told(back))
		}
	}
}

// P3.6

func TestOrder(t *testing.T) {
	r := chance()
	times := someTimes()
	for range 100000 {
		a, b := times[r.Intn(len(times))], times[r.Intn(len(times))]
		c, d := mustAt(t, a), mustAt(t, b)
		if ahead(c, d) != (a < b) || ahead(d, c) != (b < a) || (c == d) != (a == b) {
			t.Fatalf("%d and %d: %s and %s", a, b, told(c), told(d))
		}
	}
	for _, a := range times {
		if a < api.MaxTime && !ahead(mustAt(t, a), mustAt(t, a+1)) {
			t.Fatalf("%d and one more: %s, %s", a, told(mustAt(t, a)), told(mustAt(t, a+1)))
		}
	}
}

// P3.7

func TestNextDayAndSecond(t *testing.T) {
	for _, at := range someTimes() {
		if at+day <= api.MaxTime {
			isAt(t, at+day, nextDay(mustAt(t, at)))
		}
		if at+1 <= api.MaxTime {
			isAt(t, at+1, nextSecond(mustAt(t, at)))
		}
	}
}

func TestEverySecond(t *testing.T) {
	for _, from := range []int{0, 68169600, 951868800 - day, 4107542400 - day, api.MaxTime - 2*day} {
		d := mustAt(t, from)
		for at := from; at <= from+2*day; at++ {
			isAt(t, at, d)
			isTime(t, d, at)
			d = nextSecond(d)
		}
	}
}

// P3.8

func TestCycle(t *testing.T) {
	for _, at := range someTimes() {
		if at+146097*day > api.MaxTime {
			continue
		}
		d := mustAt(t, at)
		d.Year += 400
		isAt(t, at+146097*day, d)
	}
}

// P3.9

func TestDaysOfYears(t *testing.T) {
	for _, from := range []int{1970, 2300, 1e6, 1e9 + 70, maxYear - 900} {
		for i := range 900 {
			year := from + i
			all := 0
			for month := 1; month <= 12; month++ {
				n, code := Days(year, month)
				if code != api.OK {
					t.Fatalf("Days(%d, %d): code %d", year, month, code)
				}
				all += n
			}
			want := 365
			if slowLeap(year) {
				want = 366
			}
			gap := mustTime(t, date(year+1, 1, 1, 0, 0, 0, 0)) - mustTime(t, date(year, 1, 1, 0, 0, 0, 0))
			if all != want || gap != want*day || Leap(year) != (want == 366) {
				t.Fatalf("year %d: %d days, %d seconds, leap %v; want %d days", year, all, gap, Leap(year), want)
			}
		}
	}
}
