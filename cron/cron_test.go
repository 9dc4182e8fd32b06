package cron

import (
	"fmt"
	"slices"
	"strings"
	"testing"
	"time"

	"escapement/api"
)

func parsed(t *testing.T, s string) *Expr {
	t.Helper()
	x, code := Parse(s)
	if code != api.OK || x == nil {
		t.Fatalf("Parse(%q): %v, %d", s, x, code)
	}
	return x
}

func refused(t *testing.T, s string, want api.Errno) {
	t.Helper()
	if x, code := Parse(s); x != nil || code != want {
		t.Errorf("P4.1: Parse(%q): %v, %d; want %d", s, x, code, want)
	}
}

// inField is a text whose one field has a word, the others a star.
func inField(f int, word string) string {
	words := []string{"*", "*", "*", "*", "*"}
	words[f] = word
	return strings.Join(words, " ")
}

// asModel holds Parse and Text of a text against the model's.
func asModel(t *testing.T, s string) {
	t.Helper()
	m, want := slowParse(s)
	if want != 0 {
		refused(t, s, api.Errno(want))
		return
	}
	x, code := Parse(s)
	if code != api.OK || x == nil {
		t.Errorf("P4.1: Parse(%q): %v, %d; want an expression", s, x, code)
		return
	}
	if got := x.Text(); got != m.text() {
		t.Errorf("P4.1, P4.2: Text of %q: %q; want %q", s, got, m.text())
	}
}

// P4.1: each kind of item, in each field, within, at and beyond its bounds.
func TestParseItems(t *testing.T) {
	for f := range 5 {
		high := greatest()[f]
		var near []int
		for _, n := range []int{0, 1, 2, 3, high / 2, high - 1, high, high + 1, 100} {
			if !slices.Contains(near, n) {
				near = append(near, n)
			}
		}
		asModel(t, inField(f, "*"))
		for n := range high + 3 {
			asModel(t, inField(f, fmt.Sprint(n)))
			asModel(t, inField(f, fmt.Sprintf("*/%d", n)))
			asModel(t, inField(f, fmt.Sprintf("%d/2", n)))
		}
		for _, n := range near {
			for _, m := range near {
				asModel(t, inField(f, fmt.Sprintf("%d-%d", n, m)))
				asModel(t, inField(f, fmt.Sprintf("%d,%d", n, m)))
				for _, s := range near {
					asModel(t, inField(f, fmt.Sprintf("%d-%d/%d", n, m, s)))
				}
			}
		}
	}
}

// P4.1: the values of the items, by Matches rather than by Text.
func TestParseValues(t *testing.T) {
	for _, c := range []struct {
		field int
		word  string
		want  []int
	}{
		{0, "*/17", []int{0, 17, 34, 51}}, {0, "5-20/7", []int{5, 12, 19}}, {0, "5-19/7", []int{5, 12, 19}}, {0, "5-18/7", []int{5, 12}},
		{0, "59", []int{59}}, {0, "0-59/59", []int{0, 59}}, {0, "3,1,3,2-4", []int{1, 2, 3, 4}}, {0, "7-7/9", []int{7}},
		{1, "*/23", []int{0, 23}}, {1, "22-23,0", []int{0, 22, 23}},
		{2, "*/16", []int{1, 17}}, {2, "*/30", []int{1, 31}}, {2, "*/31", []int{1}}, {2, "31", []int{31}},
		{3, "*/11", []int{1, 12}}, {3, "*/12", []int{1}}, {3, "2-12/4", []int{2, 6, 10}},
		{4, "*/6", []int{0, 6}}, {4, "*/4", []int{0, 4}}, {4, "1-5/2", []int{1, 3, 5}},
	} {
		x := parsed(t, inField(c.field, c.word))
		var got []int
		for at := 0; at < 366*day; at += 60 {
			d := time.Unix(int64(at), 0).UTC()
			v := [5]int{d.Minute(), d.Hour(), d.Day(), int(d.Month()), int(d.Weekday())}[c.field]
			if x.Matches(at) && !slices.Contains(got, v) {
				got = append(got, v)
			}
		}
		slices.Sort(got)
		if !slices.Equal(got, c.want) {
			t.Errorf("P4.1: %q: %v; want %v", inField(c.field, c.word), got, c.want)
		}
	}
}

// P4.1: what is no item, in each field.
func TestParseNoItems(t *testing.T) {
	for f := range 5 {
		for _, word := range []string{
			"01", "00", "007", "1,", ",1", ",", "1,,2", "*,", "+1", "-1", "1-", "-", "--", "1--2", "1-2-3", "1-2/", "1-2/0", "1-2/01", "1-2/+1", "1-2/-1",
			"/", "/2", "*/", "*/0", "*/00", "*/01", "*/-1", "*/*", "*/2/3", "1-2/2/2", "**", "*1", "1*", "*-5", "1-*", "*-*", "1/2", "5-3", "3-2/1", "4-3",
			"x", "0x1", "1e0", "1.5", "1_0", "١", "１", "é", "\xff", "1\xff", "1\x00", "1\n", "\n", "\v", "1\u00a02", "1-\u20032", "jan", "mon", "MON", "L", "?", "@daily", "1;2", "1#2", ":", "1:", ":1", "1-:", "*/:", ".", "1/",
			"4294967297", "18446744073709551617", "1-18446744073709551618", "*/18446744073709551617", "340282366920938463463374607431768211457", strings.Repeat("1", 900),
			"1,60,2", "2,1-70", "*,*/70", "1,x", "x,1",
		} {
			refused(t, inField(f, word), api.ErrCronItem)
		}
	}
	for _, s := range []string{
		"60 * * * *", "* 24 * * *", "* * 0 * *", "* * 32 * *", "* * * 0 *", "* * * 13 *", "* * * * 7",
		"0-60 * * * *", "* 0-24 * * *", "* * 0-31 * *", "* * 1-32 * *", "* * * 0-12 *", "* * * 1-13 *", "* * * * 0-7",
		"*/60 * * * *", "* */24 * * *", "* * */32 * *", "* * * */13 *", "* * * * */7",
		"0-1/60 * * * *", "* 0-1/24 * * *", "* * 1-2/32 * *", "* * * 1-2/13 *", "* * * * 0-1/7",
	} {
		refused(t, s, api.ErrCronItem)
	}
}

// P4.1: words, blanks, and how long a text may be.
func TestParseWords(t *testing.T) {
	for _, s := range []string{
		"", " ", "\t", " \t ", "*", "* * * *", "* * * * * *", "* * * *\t*\t*", "1 2 3 4", "1,2,3,4,5", "****", "a", "a b c d", "a b c d e f",
		"*\n*\n*\n*\n*", "*\v* * * *", "*\u00a0*\u00a0*\u00a0*\u00a0*", "\xff\xff\xff", "* * * *\xc2\xa0*", "60 * * *", "60 * * * * *",
		"* * * * *" + strings.Repeat(" ", 1016), strings.Repeat(" ", 1016) + "* * * * *", "60 * * * *" + strings.Repeat("\t", 1015), strings.Repeat("* ", 1<<16), strings.Repeat("0,", 509) + "0 * * *",
	} {
		refused(t, s, api.ErrCronWords)
	}
	for _, s := range []string{
		"1 2 3 4 5", "  1\t2 3 4   5 ", "\t1\t2\t3\t4\t5\t", "1 \t 2\t \t3  4 5", " 1 2 3 4 5" + strings.Repeat(" ", 1014), strings.Repeat("\t", 1015) + "1 2 3 4 5",
	} {
		if got := parsed(t, s).Text(); got != "1 2 3 4 5" {
			t.Errorf("P4.1: Text of %q: %q", s, got)
		}
	}
	for _, s := range []string{"1 2 3 4 \xff", "\xff 2 3 4 5", "1\u00a0 2 3 4 5", "1 2 3 4 5\n", "\n 1 2 3 4", "\xe2\x20\x20 2 3 4 5", "1 \xe2 \x82 4 5"} {
		asModel(t, s)
		refused(t, s, api.ErrCronItem)
	}
	long := strings.Repeat("0,", 507) + "1 * * * *"
	if got := parsed(t, long+" ").Text(); len(long) != 1023 || got != "0-1 * * * *" {
		t.Errorf("P4.1: %d bytes: %q", len(long)+1, got)
	}
	refused(t, long+"  ", api.ErrCronWords)
}

// P4.1, P4.2: texts of chance, most of them nearly right.
func TestParseByChance(t *testing.T) {
	r := chance()
	const signs = "0123456789**//--,, \t"
	for range 20000 {
		s := someText(r)
		asModel(t, s)
		b := []byte(s)
		for range 1 + r.Intn(2) {
			at := r.Intn(len(b))
			switch r.Intn(3) {
			case 0:
				b[at] = signs[r.Intn(len(signs))]
			case 1:
				b = slices.Insert(b, at, signs[r.Intn(len(signs))])
			default:
				b = append(slices.Delete(b, at, at+1), 'x')[:len(b)-1]
			}
		}
		asModel(t, string(b))
	}
}

// P4.2: the chapter's examples, whole sets however they were written, and runs
// at both ends of the fields.
func TestText(t *testing.T) {
	for _, c := range [][2]string{
		{"30 2 * * *", "30 2 * * *"},
		{"0 0 29 2 */1", "0 0 29 2 *"},
		{"5,1-3,2 0-23 */16 * 6,0", "1-3,5 * 1,17 * 0,6"},
		{"0-10/5 9-17 * 1-12/11 1-5", "0,5,10 9-17 * 1,12 1-5"},
		{"*/1 0-23/1 1-31 1-6,7-12 0,1,2,3,4,5,6", "* * * * *"},
		{"*,1 12-23,0-11 */2,2-30/2 */3,*/4,6,12,2,8 0-5,6", "* * * 1-2,4-10,12 *"},
		{"1-59 0-22 2-31 1-11 1-6", "1-59 0-22 2-31 1-11 1-6"},
		{"0 0 1 1 0", "0 0 1 1 0"},
		{"59 23 31 12 6", "59 23 31 12 6"},
		{"58,59 0,1 30,31 1,2 5,6", "58-59 0-1 30-31 1-2 5-6"},
		{"59,0 23,0 31,1 12,1 6,0", "0,59 0,23 1,31 1,12 0,6"},
		{"*/2 */2 */2 */2 */2", "0,2,4,6,8,10,12,14,16,18,20,22,24,26,28,30,32,34,36,38,40,42,44,46,48,50,52,54,56,58 0,2,4,6,8,10,12,14,16,18,20,22 1,3,5,7,9,11,13,15,17,19,21,23,25,27,29,31 1,3,5,7,9,11 0,2,4,6"},
	} {
		if got := parsed(t, c[0]).Text(); got != c[1] {
			t.Errorf("P4.2: Text of %q: %q; want %q", c[0], got, c[1])
		}
	}
}

// subsets are all sets of weekdays that have one at least, as words.
func subsets() []string {
	var words []string
	for bits := 1; bits < 1<<7; bits++ {
		var items []string
		for v := 6; v >= 0; v-- {
			if bits>>v&1 == 1 {
				items = append(items, fmt.Sprint(v))
			}
		}
		words = append(words, strings.Join(items, ","))
	}
	return words
}

// P4.2, P4.3, P4.7: all sets of weekdays: Text, Parse of Text, and that two
// are the same just if their Texts are.
func TestTextOfSubsets(t *testing.T) {
	var all []*Expr
	for _, word := range subsets() {
		asModel(t, inField(4, word))
		x := parsed(t, inField(4, word))
		if !parsed(t, x.Text()).Same(x) {
			t.Errorf("P4.7: Parse of %q is not the same", x.Text())
		}
		all = append(all, x)
	}
	for i, x := range all {
		for j, y := range all {
			if x.Same(y) != (i == j) || x.Same(y) != (x.Text() == y.Text()) {
				t.Errorf("P4.3, P4.7: %q and %q: Same %v", x.Text(), y.Text(), x.Same(y))
			}
		}
	}
}

// P4.3.
func TestSame(t *testing.T) {
	for _, c := range []struct {
		x, y string
		want bool
	}{
		{"1 2 3 4 5", "  1\t2 3 4   5 ", true},
		{"*/1 * 1-31 * *", "* 0-23 * 1-12 0-6", true},
		{"1,2,3 * * * *", "1-3 * * * *", true},
		{"1 2 3 4 5", "2 2 3 4 5", false},
		{"1 2 3 4 5", "1 1 3 4 5", false},
		{"1 2 3 4 5", "1 2 2 4 5", false},
		{"1 2 3 4 5", "1 2 3 3 5", false},
		{"1 2 3 4 5", "1 2 3 4 4", false},
		{"1 1 3 4 5", "3 4 1 1 5", false},
		{"* * * * *", "1-59 * * * *", false},
		// No time matches either, yet the sets are not the same.
		{"0 0 30 2 *", "0 0 31 2 *", false},
		// The same times match both, yet the sets are not the same.
		{"0 0 29-31 2 *", "0 0 29 2 *", false},
	} {
		x, y := parsed(t, c.x), parsed(t, c.y)
		if x.Same(y) != c.want || y.Same(x) != c.want || (x.Text() == y.Text()) != c.want {
			t.Errorf("P4.3: %q and %q: %v, %v", c.x, c.y, x.Same(y), y.Same(x))
		}
		if x.Same(nil) || !x.Same(x) {
			t.Errorf("P4.3: %q: nil %v, itself %v", c.x, x.Same(nil), x.Same(x))
		}
	}
}

// P4.3, P4.7: Parse of Text, for sets of chance.
func TestThereAndBack(t *testing.T) {
	r := chance()
	var before *Expr
	for range 5000 {
		x := parsed(t, someText(r))
		text := x.Text()
		again := parsed(t, text)
		if !again.Same(x) || !x.Same(again) || again.Text() != text {
			t.Fatalf("P4.7: Parse of %q: %q", text, again.Text())
		}
		if before != nil && before.Same(x) != (before.Text() == text) {
			t.Fatalf("P4.7: %q and %q: %v", before.Text(), text, before.Same(x))
		}
		before = x
	}
}

// An expression does not change, and two have nothing to do with each other.
func TestNoSharing(t *testing.T) {
	x := parsed(t, "1 2 3 4 5")
	y := parsed(t, "*/2 * * * *")
	x.Next(0)
	x.Last(1 << 40)
	x.Matches(7)
	x.Same(y)
	refused(t, "9 9 9 9 9,7", api.ErrCronItem)
	if x.Text() != "1 2 3 4 5" || !x.Same(parsed(t, "1 2 3 4 5")) {
		t.Errorf("an expression has changed: %q", x.Text())
	}
}
