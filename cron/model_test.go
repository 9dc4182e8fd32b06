package cron

import (
	"fmt"
	"math/big"
	"math/rand"
	"regexp"
	"strings"
	"time"
)

// The model reads and asks an expression in other ways than the package does:
// patterns for the items, numbers of any length, Go's own dates, and searches
// that look at every day or every minute.

const (
	maxTime = 1 << 62
	day     = 86400
	cycle   = 12622780800 // 400 years
)

func chance() *rand.Rand { return rand.New(rand.NewSource(4)) }

// least and greatest are the chapter's table.
func least() [5]int    { return [5]int{0, 0, 1, 1, 0} }
func greatest() [5]int { return [5]int{59, 23, 31, 12, 6} }

// model has each field's values.
type model [5]map[int]bool

var (
	slowBlanks = regexp.MustCompile(`[ \t]+`)
	slowItem   = regexp.MustCompile(`\A(?:\*|(\d+)(?:-(\d+))?)(?:/(\d+))?\z`)
	slowDigits = regexp.MustCompile(`\A(?:0|[1-9][0-9]*)\z`)
)

// slowNumber is a number from low to high, or none.
func slowNumber(s string, low, high int) (int, bool) {
	if !slowDigits.MatchString(s) {
		return 0, false
	}
	n, _ := new(big.Int).SetString(s, 10)
	if n.Cmp(big.NewInt(int64(low))) < 0 || n.Cmp(big.NewInt(int64(high))) > 0 {
		return 0, false
	}
	return int(n.Int64()), true
}

// slowValues are an item's values, or none.
func slowValues(item string, low, high int) []int {
	m := slowItem.FindStringSubmatch(item)
	if m == nil || m[1] != "" && m[2] == "" && m[3] != "" {
		return nil
	}
	from, to, step := low, high, 1
	ok, also, too := true, true, true
	if m[1] != "" {
		from, ok = slowNumber(m[1], low, high)
		to = from
	}
	if m[2] != "" {
		to, also = slowNumber(m[2], low, high)
	}
	if m[3] != "" {
		step, too = slowNumber(m[3], 1, high)
	}
	if !ok || !also || !too {
		return nil
	}
	var values []int
	for v := low; v <= high; v++ {
		if v >= from && v <= to && (v-from)%step == 0 {
			values = append(values, v)
		}
	}
	return values
}

// slowWords are a text's words.
func slowWords(s string) []string {
	s = strings.Trim(s, " \t")
	if s == "" {
		return nil
	}
	return slowBlanks.Split(s, -1)
}

// slowParse answers the model of a text, or the number of its error.
func slowParse(s string) (model, int) {
	words := slowWords(s)
	if len(s) > 1024 || len(words) != 5 {
		return model{}, 40
	}
	var m model
	for f, w := range words {
		m[f] = map[int]bool{}
		for _, item := range strings.Split(w, ",") {
			values := slowValues(item, least()[f], greatest()[f])
			if len(values) == 0 {
				return model{}, 41
			}
			for _, v := range values {
				m[f][v] = true
			}
		}
	}
	return m, 0
}

func mustModel(s string) model {
	m, code := slowParse(s)
	if code != 0 {
		panic(fmt.Sprintf("%q is no expression: %d", s, code))
	}
	return m
}

func (m model) whole(f int) bool { return len(m[f]) == greatest()[f]-least()[f]+1 }

// text writes the fields as a row of marks, and finds the runs in it by a pattern.
func (m model) text() string {
	var words []string
	for f := range m {
		if m.whole(f) {
			words = append(words, "*")
			continue
		}
		row := ""
		for v := 0; v <= 60; v++ {
			if m[f][v] {
				row += "x"
			} else {
				row += "."
			}
		}
		var runs []string
		for _, at := range regexp.MustCompile("x+").FindAllStringIndex(row, -1) {
			if at[1]-at[0] == 1 {
				runs = append(runs, fmt.Sprint(at[0]))
			} else {
				runs = append(runs, fmt.Sprintf("%d-%d", at[0], at[1]-1))
			}
		}
		words = append(words, strings.Join(runs, ","))
	}
	return strings.Join(words, " ")
}

// onDay tells whether a day, counted from time 0 on, has what matches.
func (m model) onDay(n int) bool {
	d := time.Unix(int64(n)*day, 0).UTC()
	ofMonth, ofWeek := m[2][d.Day()], m[4][int(d.Weekday())]
	if !m[3][int(d.Month())] {
		return false
	}
	if !m.whole(2) && !m.whole(4) {
		return ofMonth || ofWeek
	}
	return ofMonth && ofWeek
}

func (m model) matches(t int) bool {
	if t < 0 || t > maxTime {
		return false
	}
	d := time.Unix(int64(t), 0).UTC()
	return d.Second() == 0 && m[0][d.Minute()] && m[1][d.Hour()] && m.onDay(t/day)
}

// reach is how many days a search looks at: some more than the eight years
// that can lie between two leap years.
const reach = 9 * 366

// next looks at each minute of each day; -1 if there is none.
func (m model) next(t int) int {
	t = max(t, -1)
	for n := max(t, 0) / day; n <= max(t, 0)/day+reach && n <= maxTime/day; n++ {
		if !m.onDay(n) {
			continue
		}
		for at := n * day; at < (n+1)*day; at += 60 {
			if at > t && m.matches(at) {
				return at
			}
		}
	}
	return -1
}

// last looks at each minute of each day; -1 if there is none.
func (m model) last(t int) int {
	t = min(t, maxTime)
	for n := t / day; t >= 0 && n >= 0 && n >= t/day-reach; n-- {
		if !m.onDay(n) {
			continue
		}
		for at := (n+1)*day - 60; at >= n*day; at -= 60 {
			if at <= t && m.matches(at) {
				return at
			}
		}
	}
	return -1
}

// someItem is an item of chance that may stand in a field.
func someItem(r *rand.Rand, f int) string {
	low, high := least()[f], greatest()[f]
	from := low + r.Intn(high-low+1)
	to := from + r.Intn(high-from+1)
	step := 1 + r.Intn(high)
	switch r.Intn(6) {
	case 0:
		return "*"
	case 1:
		return fmt.Sprintf("*/%d", step)
	case 2:
		return fmt.Sprintf("%d-%d", from, to)
	case 3:
		return fmt.Sprintf("%d-%d/%d", from, to, step)
	}
	return fmt.Sprint(from)
}

// someText is an expression's text of chance.
func someText(r *rand.Rand) string {
	var words []string
	for f := range 5 {
		items := []string{someItem(r, f)}
		for r.Intn(3) == 0 {
			items = append(items, someItem(r, f))
		}
		words = append(words, strings.Join(items, ","))
	}
	return strings.Join(words, " ")
}

// someTimes are times about which a search may stumble, and some of chance.
func someTimes(r *rand.Rand) []int {
	at := func(year, month, dayOf int) int {
		return int(time.Date(year, time.Month(month), dayOf, 0, 0, 0, 0, time.UTC).Unix())
	}
	times := []int{
		-1 << 63, -61, -60, -1, 0, 1, 59, 60, 61, 3599, 3600, 86399, 86400,
		maxTime - 86400, maxTime - 65, maxTime - 64, maxTime - 5, maxTime - 4, maxTime - 3,
		maxTime - 1, maxTime, maxTime + 1, maxTime + 56, 1<<63 - 61, 1<<63 - 60, 1<<63 - 1,
	}
	for _, t := range []int{
		at(1971, 1, 1), at(1972, 2, 28), at(1972, 2, 29), at(1972, 3, 1), at(1973, 3, 1),
		at(2000, 2, 29), at(2000, 3, 1), at(2096, 2, 29), at(2100, 3, 1), at(2104, 2, 29),
		at(2026, 4, 30), at(2026, 5, 1), at(2026, 12, 31), at(2027, 1, 1), at(2400, 2, 29), at(2500, 3, 1),
	} {
		times = append(times, t-60, t-1, t, t+1, t+59, t+60)
	}
	for range 20 {
		times = append(times, r.Intn(2e9), r.Intn(cycle), r.Intn(maxTime))
	}
	return times
}
