package journal

import (
	"bytes"
	"fmt"
	"math"
	"slices"
	"strings"
	"testing"

	"escapement/api"
	"escapement/disk"
)

// The chapter's examples, row by row.
func TestExamples(t *testing.T) {
	if j, code := Open(nil); j != nil || code != api.ErrArg {
		t.Errorf("examples: Open(nil): %v, %d", j, code)
	}
	d := empty(t, 100000)
	j := opened(t, "examples", d)
	wants(t, "examples", j, state{next: 1})
	lies(t, "examples", d, nil)
	answers(t, "examples", j.Append([]byte{7, 8}), api.OK)
	one := front(1, 1) + image(1, "") + record(1, "\x07\x08")
	lies(t, "examples", d, map[int]string{1: one})
	if len(one) != 60 || one[24:37] != "\x00\x00\x00\x00\x02\x01\x00\x00\x00\x00\x00\x00\x00" || one[41:54] != "\x02\x00\x00\x00\x01\x01\x00\x00\x00\x00\x00\x00\x00" {
		t.Errorf("examples: segment 1 has %d bytes: %q", len(one), one)
	}
	answers(t, "examples", j.Append([]byte{9}), api.OK)
	lies(t, "examples", d, map[int]string{1: one + record(2, "\x09")})
	wants(t, "examples", j, state{"", []string{"\x07\x08", "\x09"}, 3})
	answers(t, "examples", j.Sync(), api.OK)
	answers(t, "examples", j.Snapshot([]byte{5, 5, 5}), api.OK)
	two := front(2, 3) + image(3, "\x05\x05\x05")
	lies(t, "examples", d, map[int]string{2: two})
	answers(t, "examples", j.Append(nil), api.OK)
	two += record(3, "")
	lies(t, "examples", d, map[int]string{2: two})
	if len(two) != 61 {
		t.Errorf("examples: segment 2 has %d bytes", len(two))
	}
	wants(t, "examples", j, state{"\x05\x05\x05", []string{""}, 4})
	j = opened(t, "examples", d)
	wants(t, "examples", j, state{"\x05\x05\x05", []string{""}, 4})
	answers(t, "examples", j.Append([]byte{1}), api.OK)
	lies(t, "examples", d, map[int]string{2: two, 3: front(3, 4) + record(4, "\x01")})
	answers(t, "examples", j.Append(make([]byte, 1<<20)), api.ErrDiskFull)
	answers(t, "examples", j.Append(make([]byte, 1<<20+1)), api.ErrJournalLong)
}

// The chapter's examples of a loss of power.
func TestExamplesOfLoss(t *testing.T) {
	d := empty(t, 100000)
	j := opened(t, "examples", d)
	d.Arm(0)
	answers(t, "examples", j.Append([]byte{1}), api.ErrDiskDown)
	c := d.Copy()
	c.Crash([]int{1})
	lies(t, "examples, the power goes in Create", c, map[int]string{1: ""})
	d.Crash(nil)
	wants(t, "examples", opened(t, "examples", d), state{next: 1})
	lies(t, "examples, behind Create", d, nil)

	j = opened(t, "examples", d)
	answers(t, "examples", j.Append([]byte{1}), api.OK)
	answers(t, "examples", j.Sync(), api.OK)
	d.Arm(0)
	answers(t, "examples", j.Append([]byte{2}), api.ErrDiskDown)
	one := front(1, 1) + image(1, "") + record(1, "\x01")
	c = d.Copy()
	c.Crash([]int{18})
	lies(t, "examples, the power goes in Append", c, map[int]string{1: one + record(2, "\x02")})
	d.Crash(nil)
	wants(t, "examples", opened(t, "examples", d), state{"", []string{"\x01"}, 2})
	lies(t, "examples, behind Append", d, map[int]string{1: one})
}

// The chapter's last example: a segment that does not follow any more.
func TestExampleOfBases(t *testing.T) {
	d := empty(t, 1<<20)
	j := opened(t, "examples", d)
	j.Append([]byte{1})
	j.Sync()
	j.Append([]byte{2})
	j.Append(make([]byte, 1<<16-24-17-18-18-17))
	j.Append([]byte{4})
	if list, _ := d.List(); !slices.Equal(list, []int{1, 2}) {
		t.Fatalf("examples: %v", list)
	}
	d.Crash([]int{0, math.MaxInt})
	j = opened(t, "examples", d)
	wants(t, "examples", j, state{"", []string{"\x01"}, 2})
	answers(t, "examples", j.Append([]byte{8}), api.OK)
	lies(t, "examples", d, map[int]string{
		1: front(1, 1) + image(1, "") + record(1, "\x01"),
		2: front(2, 4) + record(4, "\x04"),
		3: front(3, 2) + record(2, "\x08"),
	})
	answers(t, "examples", j.Append([]byte{9}), api.OK)
	wants(t, "examples", opened(t, "examples", d), state{"", []string{"\x01", "\x08", "\x09"}, 4})
}

// P6.1: Open of no disk, and of a disk without power.
func TestOpenRefused(t *testing.T) {
	if j, code := Open(nil); j != nil || code != api.ErrArg {
		t.Errorf("P6.1: Open(nil): %v, %d; want 1", j, code)
	}
	for _, segs := range []map[int]string{{}, {1: front(1, 1) + image(1, "")}, {1: "x", 2: front(2, 1) + image(1, "")}} {
		d := made(t, segs)
		d.Arm(0)
		d.Sync()
		before := whole(d)
		if j, code := Open(d); j != nil || code != api.ErrDiskDown {
			t.Errorf("P6.1: Open of a disk without power: %v, %d; want 56", j, code)
		}
		if whole(d) != before {
			t.Error("P6.1: Open of a disk without power changes it")
		}
	}
}

// P6.1: of an empty disk nothing is held, and nothing is laid.
func TestOpenEmpty(t *testing.T) {
	for _, capacity := range []int{0, 63, 1000, 1 << 26} {
		d := empty(t, capacity)
		wants(t, "P6.1", opened(t, "P6.1", d), state{next: 1})
		lies(t, "P6.1", d, nil)
		if whole(d) != whole(empty(t, capacity)) {
			t.Errorf("P6.1: Open turns an empty disk of %d", capacity)
		}
	}
}

// right is a segment of a head, an image and two records from 5 on.
func right(seg uint64) string {
	return front(seg, 5) + image(5, "i") + record(5, "a") + record(6, "b")
}

// patched is a text in which others stand from a place on, and whose sum of
// its first twenty bytes is put right behind them.
func patched(head string, at int, now string) string {
	s := head[:at] + now + head[at+len(now):]
	return s[:20] + four(castagnoli(s[:20])) + s[24:]
}

// P6.1: one segment of somebody else's making, as the section Words takes it.
func TestOneSegment(t *testing.T) {
	none := state{next: 1}
	full := state{"i", []string{"a", "b"}, 7}
	one := state{"i", []string{"a"}, 6}
	bare := state{"i", nil, 5}
	head := front(3, 5)
	const last = 1 << 40
	for name, c := range map[string]struct {
		text string
		want state
	}{
		"right":                                {right(3), full},
		"empty":                                {"", none},
		"a head alone":                         {head, none},
		"a head and an image":                  {head + image(5, "i"), bare},
		"a head less a byte":                   {head[:23], none},
		"a byte less":                          {right(3)[:len(right(3))-1], one},
		"a byte more":                          {right(3) + "x", full},
		"sixteen bytes more":                   {right(3) + record(7, "")[:16], full},
		"other letters, the sum put right":     {patched(right(3), 0, "ESC2"), none},
		"another first letter":                 {patched(right(3), 0, "e"), none},
		"another segment's":                    {right(4), none},
		"a number that is greater by a byte":   {patched(right(3), 11, "\x01"), none},
		"base 0":                               {front(3, 0) + image(0, "i") + record(0, "a"), none},
		"base 1":                               {front(3, 1) + image(1, "i") + record(1, "a"), state{"i", []string{"a"}, 2}},
		"the last base of a record":            {front(3, last) + image(last, "i") + record(last, "a"), state{"i", []string{"a"}, last + 1}},
		"a record behind the last one":         {front(3, last) + image(last, "i") + record(last, "a") + record(last+1, "b"), state{"i", []string{"a"}, last + 1}},
		"the last base of an image":            {front(3, last+1) + image(last+1, "i"), state{"i", nil, last + 1}},
		"and a record behind it":               {front(3, last+1) + image(last+1, "i") + record(last+1, "a"), state{"i", nil, last + 1}},
		"a base beyond":                        {front(3, last+2) + image(last+2, "i"), none},
		"a base that no int is":                {front(3, 1<<63) + image(1<<63, "i"), none},
		"the base of all ones":                 {front(3, math.MaxUint64) + image(math.MaxUint64, "i"), none},
		"a base of 5 and a high byte":          {front(3, 5+1<<56) + image(5, "i") + record(5, "a"), none},
		"a head's sum that is wrong":           {head[:23] + "x" + right(3)[24:], none},
		"a record first":                       {head + record(5, "a") + record(6, "b"), none},
		"a record, and then an image":          {head + record(5, "a") + image(6, "i"), none},
		"two images":                           {head + image(5, "i") + image(5, "k") + record(5, "a"), bare},
		"an image behind a record":             {head + image(5, "i") + record(5, "a") + image(6, "k") + record(6, "b"), one},
		"an image with a lower number":         {head + image(4, "i") + record(5, "a"), none},
		"an image with a higher number":        {head + image(6, "i") + record(5, "a"), none},
		"a record behind it one too high":      {head + image(5, "i") + record(6, "a"), bare},
		"a record behind it one too low":       {head + image(5, "i") + record(4, "a"), bare},
		"a record twice":                       {head + image(5, "i") + record(5, "a") + record(5, "b"), one},
		"a record that is left out":            {head + image(5, "i") + record(5, "a") + record(7, "b"), one},
		"a record's number with a high byte":   {head + image(5, "i") + record(5, "a") + record(6+1<<56, "b"), one},
		"a piece of kind 0":                    {head + image(5, "i") + record(5, "a") + piece(0, 6, "b"), one},
		"a piece of kind 3":                    {head + image(5, "i") + record(5, "a") + piece(3, 6, "b") + record(6, "c"), one},
		"a piece of kind 255":                  {head + piece(255, 5, "i") + record(5, "a"), none},
		"a payload's byte that is turned":      {head + image(5, "i") + record(5, "a") + record(6, "b")[:17] + "c", one},
		"a sum of the lead alone":              {head + image(5, "i") + record(5, "a") + record(6, "")[:13] + four(castagnoli(record(6, "b")[:13])) + "b", one},
		"a size of all ones":                   {head + image(5, "i") + record(5, "a") + "\xff\xff\xff\xff" + record(6, "b")[4:], one},
		"an image's payload that has no bytes": {head + image(5, "") + record(5, ""), state{"", []string{""}, 6}},
		"what stands behind a wrong piece":     {head + image(5, "i") + record(5, "a") + record(9, "x") + record(6, "b"), one},
		"pieces within a payload":              {head + image(5, "i") + record(5, record(5, "x")+record(6, "y")), state{"i", []string{record(5, "x") + record(6, "y")}, 6}},
	} {
		d := made(t, map[int]string{3: c.text})
		if s, _ := holds(d); !s.is(c.want) {
			t.Errorf("the model, %s: %v; want %v", name, s, c.want)
		}
		wants(t, "P6.1, "+name, opened(t, "P6.1, "+name, d), c.want)
		lies(t, "P6.1, "+name, d, map[int]string{3: c.text})
	}
}

// P6.1: a head, an image and a record that lack just their last byte, where
// that is 0, as what is not there is not 0.
func TestLastByte(t *testing.T) {
	ends := func(text string) bool { return text[len(text)-1] == 0 }
	seen := 0
	for n := uint64(1); seen < 9; n++ {
		b := front(3, n) + image(n, "i")
		for name, c := range map[string]struct {
			last string
			segs map[int]string
			want state
		}{
			"a head":                {front(3, n), map[int]string{2: front(2, 1) + image(1, "i"), 3: front(3, n)}, state{"i", nil, 1}},
			"an image":              {image(n, ""), map[int]string{3: front(3, n) + image(n, "")}, state{next: 1}},
			"a record":              {record(n, ""), map[int]string{3: b + record(n, "")}, state{"i", nil, int(n)}},
			"a record with a 0":     {record(n, "\x00"), map[int]string{3: b + record(n, "\x00")}, state{"i", nil, int(n)}},
			"a record behind a one": {record(n+1, ""), map[int]string{3: b + record(n, "a") + record(n+1, "")}, state{"i", []string{"a"}, int(n) + 1}},
		} {
			if !ends(c.last) {
				continue
			}
			seen++
			c.segs[3] = c.segs[3][:len(c.segs[3])-1]
			wants(t, "P6.1, "+name, opened(t, "P6.1", made(t, c.segs)), c.want)
		}
	}
	for n := uint64(1); ; n++ {
		if text := front(3, n); ends(text) {
			wants(t, "P6.1, a head alone", opened(t, "P6.1", made(t, map[int]string{3: text[:23]})), state{next: 1})
			return
		}
	}
}

// P6.1: payloads at and beyond what a record and an image may have.
func TestLongPieces(t *testing.T) {
	long := strings.Repeat("r", 1<<20)
	vast := strings.Repeat("i", 1<<23)
	for name, c := range map[string]struct {
		text string
		want state
	}{
		"the longest record":  {front(1, 1) + image(1, "") + record(1, long) + record(2, "x"), state{"", []string{long, "x"}, 3}},
		"one that is longer":  {front(1, 1) + image(1, "") + record(1, long+"r") + record(2, "x"), state{next: 1}},
		"the longest image":   {front(1, 1) + image(1, vast) + record(1, "x"), state{vast, []string{"x"}, 2}},
		"an image beyond it":  {front(1, 1) + image(1, vast+"i") + record(1, "x"), state{next: 1}},
		"more than a segment": {front(1, 1) + image(1, long+"i") + record(1, long) + record(2, long), state{long + "i", []string{long, long}, 3}},
	} {
		wants(t, "P6.1, "+name, opened(t, "P6.1", made(t, map[int]string{1: c.text})), c.want)
	}
}

// P6.1: which of several segments are taken, and which are removed.
func TestManySegments(t *testing.T) {
	b := func(seg uint64) string { return front(seg, 5) + image(5, "i") + record(5, "a") }
	const last = 1 << 40
	for name, c := range map[string]struct {
		segs map[int]string
		want state
		left []int
	}{
		"one that follows":                 {map[int]string{3: b(3), 4: front(4, 6) + record(6, "b")}, state{"i", []string{"a", "b"}, 7}, []int{3, 4}},
		"with a gap of numbers":            {map[int]string{3: b(3), 99: front(99, 6) + record(6, "b"), last: front(last, 7) + record(7, "c")}, state{"i", []string{"a", "b", "c"}, 8}, []int{3, 99, last}},
		"without records":                  {map[int]string{3: b(3), 4: front(4, 6), 5: front(5, 6) + record(6, "b")}, state{"i", []string{"a", "b"}, 7}, []int{3, 4, 5}},
		"a base that is too high":          {map[int]string{3: b(3), 4: front(4, 7) + record(7, "c"), 5: front(5, 6) + record(6, "b")}, state{"i", []string{"a", "b"}, 7}, []int{3, 4, 5}},
		"a base that is too low":           {map[int]string{3: b(3), 4: front(4, 5) + record(5, "x"), 5: front(5, 6) + record(6, "b")}, state{"i", []string{"a", "b"}, 7}, []int{3, 4, 5}},
		"a head that is not right":         {map[int]string{3: b(3), 4: front(9, 6) + record(6, "x"), 5: front(5, 6) + record(6, "b")}, state{"i", []string{"a", "b"}, 7}, []int{3, 4, 5}},
		"one that is cut":                  {map[int]string{3: b(3), 4: (front(4, 6) + record(6, "b") + record(7, "c"))[:50], 5: front(5, 7) + record(7, "d")}, state{"i", []string{"a", "b", "d"}, 8}, []int{3, 4, 5}},
		"an image that is no first piece":  {map[int]string{3: b(3), 4: front(4, 6) + record(6, "b") + image(7, "k") + record(7, "c")}, state{"i", []string{"a", "b"}, 7}, []int{3, 4}},
		"an image that is cut":             {map[int]string{3: b(3), 4: (front(4, 6) + image(6, "k"))[:41], 5: front(5, 6) + record(6, "b")}, state{"i", []string{"a", "b"}, 7}, []int{3, 4, 5}},
		"a greater image":                  {map[int]string{1: b(1), 2: front(2, 6) + record(6, "b"), 3: front(3, 2) + image(2, "k"), 4: front(4, 2) + record(2, "c")}, state{"k", []string{"c"}, 3}, []int{3, 4}},
		"a greater image without a byte":   {map[int]string{1: b(1), 7: front(7, 9) + image(9, "")}, state{"", nil, 9}, []int{7}},
		"three images":                     {map[int]string{1: b(1), 2: b(2), 3: b(3), 4: "x"}, state{"i", []string{"a"}, 6}, []int{3, 4}},
		"rubbish below":                    {map[int]string{1: "x", 2: "", 3: b(3)}, state{"i", []string{"a"}, 6}, []int{3}},
		"no image":                         {map[int]string{1: front(1, 1) + record(1, "a"), 2: front(2, 2) + record(2, "b"), 3: "x"}, state{next: 1}, []int{1, 2, 3}},
		"an image whose head is not right": {map[int]string{1: b(1), 2: b(1)}, state{"i", []string{"a"}, 6}, []int{1, 2}},
		"up to the last number":            {map[int]string{1: front(1, last) + image(last, "i"), 2: front(2, last) + record(last, "a"), 3: front(3, last+1) + record(last+1, "x")}, state{"i", []string{"a"}, last + 1}, []int{1, 2, 3}},
	} {
		d := made(t, c.segs)
		if s, _ := holds(d); !s.is(c.want) {
			t.Errorf("the model, %s: %v; want %v", name, s, c.want)
		}
		wants(t, "P6.1, "+name, opened(t, "P6.1", d), c.want)
		left := map[int]string{}
		for _, seg := range c.left {
			left[seg] = c.segs[seg]
		}
		lies(t, "P6.1, "+name, d, left)
		if lasts(d) != 12 || d.Down() {
			t.Errorf("P6.1, %s: the disk is armed or off", name)
		}
	}
}

// drives does the same with a journal and with the model, each on a copy of
// one disk that is armed so, and holds both, and both disks, against each other.
func drives(t *testing.T, promise string, d *disk.Disk, calls int, open bool, do func(b book) api.Errno) {
	t.Helper()
	a, c := d.Copy(), d.Copy()
	if open {
		a.Arm(calls)
		c.Arm(calls)
	}
	j, got := Open(a)
	m, want := openModel(c)
	if got != want || (j == nil) != (want != api.OK) {
		t.Errorf("%s: Open, armed with %d: %v, %d; want %d", promise, calls, j, got, want)
		return
	}
	if j != nil && !open {
		a.Arm(calls)
		c.Arm(calls)
	}
	if j != nil {
		if got, want = do(j), do(m); got != want || !told(j).is(m.s) {
			t.Errorf("%s: armed with %d: %d, %v; want %d, %v", promise, calls, got, told(j), want, m.s)
		}
	}
	if g, w := whole(a), whole(c); g != w {
		t.Errorf("%s: armed with %d: the disk has\n%s\nwant\n%s", promise, calls, g, w)
	}
}

// stirred are disks with something on them, safe and not.
func stirred(t *testing.T) map[string]*disk.Disk {
	t.Helper()
	all := map[string]*disk.Disk{"empty": empty(t, 1<<20)}
	add := func(name string, do func(d *disk.Disk, j *Journal)) {
		d := empty(t, 1<<20)
		do(d, opened(t, "P6.1", d))
		all[name] = d
	}
	add("a record", func(d *disk.Disk, j *Journal) { j.Append([]byte("a")) })
	add("records, some of them safe", func(d *disk.Disk, j *Journal) {
		j.Append([]byte("a"))
		j.Sync()
		j.Append([]byte("b"))
	})
	add("a snapshot, whose past is not removed for good", func(d *disk.Disk, j *Journal) {
		j.Append([]byte("a"))
		j.Append(make([]byte, 1<<16))
		j.Append([]byte("c"))
		j.Snapshot([]byte("i"))
		j.Append([]byte("d"))
	})
	add("a snapshot that was cut", func(d *disk.Disk, j *Journal) {
		j.Append([]byte("a"))
		d.Arm(1)
		j.Snapshot([]byte("i"))
		d.Crash([]int{1000, 30})
	})
	add("a past that came back", func(d *disk.Disk, j *Journal) {
		for range 3 {
			j.Append(make([]byte, 1<<16))
		}
		j.Snapshot([]byte("i"))
		d.Crash([]int{1, 1, 1})
	})
	add("segments of others", func(d *disk.Disk, j *Journal) {
		for _, seg := range []int{2, 4, 7, 8} {
			d.Create(seg)
		}
		d.Append(7, []byte(right(7)))
		d.Append(8, []byte("x"))
	})
	return all
}

// P6.1: the calls on the disk, in their order, wherever the power goes in them.
func TestOpenCalls(t *testing.T) {
	for name, d := range stirred(t) {
		for calls := range 8 {
			drives(t, "P6.1, "+name, d, calls, true, func(book) api.Errno { return api.OK })
		}
	}
}

// P6.2: the views ask nothing of the disk: neither its power nor its calls.
func TestViews(t *testing.T) {
	d := empty(t, 100000)
	j := opened(t, "P6.2", d)
	wants(t, "P6.2, of an empty disk", j, state{next: 1})
	j.Append([]byte("a"))
	wants(t, "P6.2, not safe", j, state{"", []string{"a"}, 2})
	j.Sync()
	wants(t, "P6.2, safe", j, state{"", []string{"a"}, 2})
	j.Snapshot([]byte("i"))
	j.Append([]byte("b"))
	j.Append([]byte(""))
	want := state{"i", []string{"b", ""}, 4}
	wants(t, "P6.2, behind an image", j, want)
	d.Arm(0)
	before := whole(d)
	wants(t, "P6.2, armed", j, want)
	if d.Down() || whole(d) != before {
		t.Error("P6.2: the views turn the disk")
	}
	d.Sync()
	wants(t, "P6.2, off", j, want)
	wants(t, "P6.2, again", j, want)
}

// refused holds that a call is refused so, and that nothing has changed.
func refused(t *testing.T, promise string, d *disk.Disk, j *Journal, call func() api.Errno, want api.Errno) {
	t.Helper()
	disk, then := whole(d), told(j)
	answers(t, promise, call(), want)
	wants(t, "P6.6, "+promise, j, then)
	if whole(d) != disk {
		t.Errorf("P6.6, %s: the disk has changed:\n%s\nwas\n%s", promise, whole(d), disk)
	}
}

// P6.3, P6.5, P6.6: each error, and their order where several apply.
func TestErrors(t *testing.T) {
	const last = 1 << 40
	long, vast := make([]byte, 1<<20+1), make([]byte, 1<<23+1)
	mounted := func(next uint64, greatest int, room int, off bool) (*disk.Disk, *Journal) {
		d := filled(t, 1000, map[int]string{1: front(1, next) + image(next, "i")})
		j := opened(t, "P6.3", d)
		if greatest > 1 {
			d.Create(greatest)
		}
		if have, _ := d.Room(); room < have {
			d.Append(1, make([]byte, have-room))
		}
		d.Sync()
		if off {
			d.Arm(0)
			d.Sync()
		}
		return d, j
	}
	for _, off := range []bool{false, true} {
		for _, room := range []int{0, 1000} {
			for _, greatest := range []int{1, last} {
				for _, next := range []uint64{1, last, last + 1} {
					d, j := mounted(next, greatest, room, off)
					name := fmt.Sprintf("off %t, room %d, greatest %d, next %d", off, room, greatest, next)
					refused(t, "P6.3, too long, "+name, d, j, func() api.Errno { return j.Append(long) }, api.ErrJournalLong)
					refused(t, "P6.5, too long, "+name, d, j, func() api.Errno { return j.Snapshot(vast) }, api.ErrJournalLong)
					want := api.OK
					switch {
					case off:
						want = api.ErrDiskDown
					case greatest == last:
						want = api.ErrJournalNumber
					case room == 0:
						want = api.ErrDiskFull
					}
					if want != api.OK {
						refused(t, "P6.5, "+name, d, j, func() api.Errno { return j.Snapshot(nil) }, want)
					}
					if next == last+1 {
						want = api.ErrJournalNumber
					}
					if want != api.OK {
						refused(t, "P6.3, "+name, d, j, func() api.Errno { return j.Append(nil) }, want)
					} else {
						answers(t, "P6.3, "+name, j.Append(nil), api.OK)
					}
				}
			}
		}
	}
}

// P6.3: with a current segment no number of a segment is wanted, no List is asked.
func TestErrorsOfCurrent(t *testing.T) {
	d := empty(t, 1<<20)
	j := opened(t, "P6.3", d)
	j.Append([]byte("a"))
	d.Create(1 << 40)
	answers(t, "P6.3, into the current one", j.Append([]byte("b")), api.OK)
	refused(t, "P6.3, into a new one", d, j, func() api.Errno { return j.Append(make([]byte, 1<<16)) }, api.ErrJournalNumber)
	refused(t, "P6.5", d, j, func() api.Errno { return j.Snapshot(nil) }, api.ErrJournalNumber)
	answers(t, "P6.3, into the current one", j.Append([]byte("c")), api.OK)
	d.Arm(0)
	d.Sync()
	refused(t, "P6.3, off", d, j, func() api.Errno { return j.Append([]byte("d")) }, api.ErrDiskDown)
	refused(t, "P6.3, off, a new one", d, j, func() api.Errno { return j.Append(make([]byte, 1<<16)) }, api.ErrDiskDown)
	refused(t, "P6.3, off, too long", d, j, func() api.Errno { return j.Append(make([]byte, 1<<20+1)) }, api.ErrJournalLong)
	refused(t, "P6.4, off", d, j, j.Sync, api.ErrDiskDown)
}

// P6.3: the last segment that may be is made, and the last number is given.
func TestLast(t *testing.T) {
	const last = 1 << 40
	d := made(t, map[int]string{last - 1: front(last-1, last-1) + image(last-1, "i")})
	j := opened(t, "P6.3", d)
	answers(t, "P6.3", j.Append([]byte("a")), api.OK)
	answers(t, "P6.3", j.Append([]byte("b")), api.OK)
	wants(t, "P6.3", j, state{"i", []string{"a", "b"}, last + 1})
	refused(t, "P6.3", d, j, func() api.Errno { return j.Append(nil) }, api.ErrJournalNumber)
	refused(t, "P6.5", d, j, func() api.Errno { return j.Snapshot(nil) }, api.ErrJournalNumber)
	lies(t, "P6.3", d, map[int]string{last - 1: front(last-1, last-1) + image(last-1, "i"), last: front(last, last-1) + record(last-1, "a") + record(last, "b")})
	j = opened(t, "P6.3", d)
	wants(t, "P6.3, anew", j, state{"i", []string{"a", "b"}, last + 1})
	refused(t, "P6.3, anew", d, j, func() api.Errno { return j.Append(nil) }, api.ErrJournalNumber)

	d = made(t, map[int]string{last - 1: front(last-1, last) + image(last, "i")})
	j = opened(t, "P6.5", d)
	answers(t, "P6.3", j.Append([]byte("a")), api.OK)
	d = made(t, map[int]string{7: front(7, last) + image(last, "i") + record(last, "a")})
	j = opened(t, "P6.5", d)
	answers(t, "P6.5, no number is left", j.Snapshot([]byte("k")), api.OK)
	wants(t, "P6.5", j, state{"k", nil, last + 1})
	lies(t, "P6.5", d, map[int]string{8: front(8, last+1) + image(last+1, "k")})
	wants(t, "P6.5", opened(t, "P6.5", d), state{"k", nil, last + 1})
}

// P6.3: what is laid, to the letter, into a segment and into a new one.
func TestAppend(t *testing.T) {
	d := empty(t, 1<<22)
	j := opened(t, "P6.3", d)
	fill := strings.Repeat("f", 1<<16-24-17-18-17)
	answers(t, "P6.3", j.Append([]byte("a")), api.OK)
	one := front(1, 1) + image(1, "") + record(1, "a")
	lies(t, "P6.3, the first one", d, map[int]string{1: one})
	answers(t, "P6.3, up to SegSize", j.Append([]byte(fill)), api.OK)
	one += record(2, fill)
	lies(t, "P6.3, up to SegSize", d, map[int]string{1: one})
	answers(t, "P6.3, beyond it", j.Append(nil), api.OK)
	lies(t, "P6.3, beyond it", d, map[int]string{1: one, 2: front(2, 3) + record(3, "")})
	one2 := front(2, 3) + record(3, "")
	fill = strings.Repeat("g", 1<<16-24-17-17+1)
	answers(t, "P6.3, a byte beyond it", j.Append([]byte(fill)), api.OK)
	lies(t, "P6.3, a byte beyond it", d, map[int]string{1: one, 2: one2, 3: front(3, 4) + record(4, fill)})
	long := strings.Repeat("l", 1<<20)
	answers(t, "P6.3, the longest", j.Append([]byte(long)), api.OK)
	answers(t, "P6.3, behind it", j.Append([]byte("z")), api.OK)
	want := map[int]string{1: one, 2: one2, 3: front(3, 4) + record(4, fill), 4: front(4, 5) + record(5, long), 5: front(5, 6) + record(6, "z")}
	lies(t, "P6.3, behind the longest", d, want)
	full := state{"", []string{"a", strings.Repeat("f", 1<<16-24-17-18-17), "", fill, long, "z"}, 7}
	wants(t, "P6.3", j, full)
	wants(t, "P6.3, anew", opened(t, "P6.3", d), full)
	lies(t, "P6.3, anew", d, want)
}

// P6.3: an image without a byte is laid just where there is no B.
func TestAppendImages(t *testing.T) {
	for name, c := range map[string]struct {
		segs map[int]string
		seg  int
		text string
	}{
		"an empty disk":            {nil, 1, front(1, 1) + image(1, "") + record(1, "x")},
		"no B, but segments":       {map[int]string{2: "y", 5: front(5, 9) + record(9, "a")}, 6, front(6, 1) + image(1, "") + record(1, "x")},
		"B":                        {map[int]string{5: front(5, 9) + image(9, "i")}, 6, front(6, 9) + record(9, "x")},
		"B without a byte":         {map[int]string{5: front(5, 1) + image(1, "")}, 6, front(6, 1) + record(1, "x")},
		"B, and others beyond it":  {map[int]string{5: front(5, 9) + image(9, "i"), 9: "y"}, 10, front(10, 9) + record(9, "x")},
		"B, with a record that is": {map[int]string{5: front(5, 9) + image(9, "i") + record(9, "a")}, 6, front(6, 10) + record(10, "x")},
	} {
		d := made(t, c.segs)
		j := opened(t, "P6.3, "+name, d)
		answers(t, "P6.3, "+name, j.Append([]byte("x")), api.OK)
		if got, _ := d.Read(c.seg); string(got) != c.text {
			t.Errorf("P6.3, %s: segment %d has %q; want %q", name, c.seg, got, c.text)
		}
		then := told(j)
		wants(t, "P6.3, "+name, opened(t, "P6.3", d), then)
	}
}

// P6.3, P6.5: just as much room as is wanted, and a byte less.
func TestRoom(t *testing.T) {
	for _, less := range []int{0, 1} {
		want := []api.Errno{api.OK, api.ErrDiskFull}[less]
		d := empty(t, 64+24+17+17+5-less)
		j := opened(t, "P6.3", d)
		answers(t, "P6.3, a first segment", j.Append([]byte("12345")), want)
		if less == 1 {
			lies(t, "P6.6", d, nil)
			wants(t, "P6.6", j, state{next: 1})
		}
		d = empty(t, 64+24+17+17+1+17+5-less)
		j = opened(t, "P6.3", d)
		answers(t, "P6.3", j.Append([]byte("1")), api.OK)
		answers(t, "P6.3, the current segment", j.Append([]byte("12345")), want)
		answers(t, "P6.3, no room is left", j.Append([]byte("123456")), api.ErrDiskFull)
		d = empty(t, 64+24+17+17+1+64+24+17+5-less)
		j = opened(t, "P6.3", d)
		answers(t, "P6.3", j.Append([]byte("1")), api.OK)
		j = opened(t, "P6.3", d)
		answers(t, "P6.3, a new segment", j.Append([]byte("12345")), want)
		d = empty(t, 64+24+17+5-less)
		j = opened(t, "P6.5", d)
		answers(t, "P6.5, a first segment", j.Snapshot([]byte("12345")), want)
		d = empty(t, 64+24+17+17+1+64+24+17+5-less)
		j = opened(t, "P6.5", d)
		answers(t, "P6.3", j.Append([]byte("1")), api.OK)
		answers(t, "P6.5, beside what is there", j.Snapshot([]byte("12345")), want)
		if less == 1 {
			wants(t, "P6.6", j, state{"", []string{"1"}, 2})
			answers(t, "P6.3, behind a refusal", j.Append([]byte("x")), api.OK)
			lies(t, "P6.3, behind a refusal", d, map[int]string{1: front(1, 1) + image(1, "") + record(1, "1") + record(2, "x")})
		}
	}
}

// P6.4: what Sync makes safe stays, and it is one call on the disk.
func TestSync(t *testing.T) {
	d := empty(t, 100000)
	j := opened(t, "P6.4", d)
	j.Append([]byte("a"))
	d.Arm(1)
	answers(t, "P6.4", j.Sync(), api.OK)
	j.disk.Crash(nil)
	wants(t, "P6.4", opened(t, "P6.4", d), state{"", []string{"a"}, 2})
	j = opened(t, "P6.4", d)
	j.Append([]byte("b"))
	d.Arm(0)
	answers(t, "P6.4", j.Sync(), api.ErrDiskDown)
	wants(t, "P6.6", j, state{"", []string{"a", "b"}, 3})
	d.Crash(nil)
	wants(t, "P6.4, it was not done", opened(t, "P6.4", d), state{"", []string{"a"}, 2})
}

// P6.5: what is laid, to the letter, and what is removed.
func TestSnapshot(t *testing.T) {
	d := made(t, map[int]string{2: "x", 4: front(4, 5) + image(5, "i") + record(5, "a"), 6: "y", 9: front(9, 6) + record(6, "b")})
	j := opened(t, "P6.5", d)
	answers(t, "P6.5", j.Snapshot([]byte("new")), api.OK)
	text := front(10, 7) + image(7, "new")
	lies(t, "P6.5", d, map[int]string{10: text})
	wants(t, "P6.5", j, state{"new", nil, 7})
	c := d.Copy()
	c.Crash([]int{1, 1, 1})
	if list, _ := c.List(); !slices.Equal(list, []int{4, 6, 9, 10}) {
		t.Errorf("P6.5: what is removed is not made safe: %v", list)
	}
	wants(t, "P6.5, behind a crash", opened(t, "P6.5", c), state{"new", nil, 7})
	answers(t, "P6.3, the new one is the current one", j.Append([]byte("c")), api.OK)
	lies(t, "P6.3", d, map[int]string{10: text + record(7, "c")})
	answers(t, "P6.5, no bytes", j.Snapshot(nil), api.OK)
	lies(t, "P6.5, no bytes", d, map[int]string{11: front(11, 8) + image(8, "")})
	wants(t, "P6.5, no bytes", opened(t, "P6.5", d), state{"", nil, 8})

	d = empty(t, 1<<26)
	j = opened(t, "P6.5", d)
	vast := strings.Repeat("v", 1<<23)
	answers(t, "P6.5, of an empty disk", j.Snapshot([]byte("i")), api.OK)
	lies(t, "P6.5, of an empty disk", d, map[int]string{1: front(1, 1) + image(1, "i")})
	answers(t, "P6.5, the longest", j.Snapshot([]byte(vast)), api.OK)
	answers(t, "P6.3, behind it", j.Append([]byte("a")), api.OK)
	lies(t, "P6.5, the longest", d, map[int]string{2: front(2, 1) + image(1, vast), 3: front(3, 1) + record(1, "a")})
	wants(t, "P6.5, the longest", opened(t, "P6.5", d), state{vast, []string{"a"}, 2})
}

// P6.3, P6.5, P6.6: the calls on the disk, in their order, wherever the power
// goes in them, and what the journal tells then.
func TestCalls(t *testing.T) {
	does := map[string]func(b book) api.Errno{
		"Append":        func(b book) api.Errno { return b.Append([]byte("x")) },
		"Append of all": func(b book) api.Errno { return b.Append(make([]byte, 1<<16)) },
		"two Appends": func(b book) api.Errno {
			b.Append([]byte("x"))
			return b.Append([]byte("y"))
		},
		"two segments": func(b book) api.Errno {
			b.Append([]byte("x"))
			return b.Append(make([]byte, 1<<16-24-17-17))
		},
		"Sync":     book.Sync,
		"Snapshot": func(b book) api.Errno { return b.Snapshot([]byte("new")) },
		"Snapshot of two": func(b book) api.Errno {
			b.Append([]byte("x"))
			return b.Snapshot(nil)
		},
		"Append behind a Snapshot": func(b book) api.Errno {
			b.Snapshot([]byte("new"))
			return b.Append([]byte("x"))
		},
	}
	for name, d := range stirred(t) {
		for what, do := range does {
			for calls := range 10 {
				drives(t, "P6.3 to P6.6, "+name+", "+what, d, calls, false, do)
			}
		}
	}
}

// P6.6: what the power takes leaves Image, Records and Next as they were, and
// from then on each call is answered by that.
func TestOff(t *testing.T) {
	for calls := range 6 {
		for _, what := range []string{"Append", "Sync", "Snapshot"} {
			d := empty(t, 1<<20)
			j := opened(t, "P6.6", d)
			j.Append([]byte("a"))
			j.Append(make([]byte, 1<<16))
			then := told(j)
			d.Arm(calls)
			var code api.Errno
			switch what {
			case "Append":
				code = j.Append(make([]byte, 1<<16))
			case "Sync":
				code = j.Sync()
			case "Snapshot":
				code = j.Snapshot([]byte("i"))
			}
			last := map[string]int{"Append": 2, "Sync": 1, "Snapshot": 5}[what]
			if calls >= last {
				answers(t, "P6.6, "+what, code, api.OK)
				continue
			}
			answers(t, "P6.6, "+what, code, api.ErrDiskDown)
			wants(t, "P6.6, "+what, j, then)
			answers(t, "P6.6", j.Append(nil), api.ErrDiskDown)
			answers(t, "P6.6", j.Sync(), api.ErrDiskDown)
			answers(t, "P6.6", j.Snapshot(nil), api.ErrDiskDown)
			wants(t, "P6.6, "+what, j, then)
		}
	}
}

// scribble writes over bytes, and over the room behind them.
func scribble(b []byte) {
	for i := range b[:cap(b)] {
		b[:cap(b)][i] ^= 0x55
	}
}

// P6.11: what is handed in is neither changed nor kept, its spare room neither.
func TestHandedIn(t *testing.T) {
	d := empty(t, 100000)
	j := opened(t, "P6.11", d)
	for _, do := range []func([]byte) api.Errno{j.Append, j.Snapshot, j.Append, j.Append} {
		b := append(make([]byte, 0, 300), "ab|behind it"...)
		do(b[:2:300])
		if !bytes.Equal(b, []byte("ab|behind it")) || !bytes.Equal(b[:300][12:], make([]byte, 288)) {
			t.Errorf("P6.11: what was handed in is %q", b)
		}
		scribble(b)
	}
	want := state{"ab", []string{"ab", "ab"}, 4}
	wants(t, "P6.11", j, want)
	wants(t, "P6.11, on the disk", opened(t, "P6.11", d), want)
}

// P6.11: what is answered is new memory, and no two lists of it share any.
func TestAnswered(t *testing.T) {
	for _, anew := range []bool{false, true} {
		d := empty(t, 100000)
		j := opened(t, "P6.11", d)
		j.Snapshot([]byte("image"))
		for i := range 9 {
			j.Append([]byte(strings.Repeat(fmt.Sprint(i), i)))
		}
		want := told(j)
		if anew {
			j = opened(t, "P6.11", d)
		}
		list := j.Records()
		for i, b := range list {
			scribble(b)
			for k := i + 1; k < len(list); k++ {
				if string(list[k]) != want.records[k] {
					t.Errorf("P6.11: records %d and %d share memory", i, k)
				}
			}
		}
		wants(t, "P6.11, records", j, want)
		for i := range list[:cap(list)] {
			list[:cap(list)][i] = []byte("gone")
		}
		wants(t, "P6.11, the list", j, want)
		scribble(j.Image())
		wants(t, "P6.11, the image", j, want)
		list = j.Records()
		answers(t, "P6.11", j.Append([]byte("later")), api.OK)
		if len(list) != 9 || len(list[:cap(list)]) > 9 && list[:cap(list)][9] != nil {
			t.Errorf("P6.11: an answer has grown: %q", list[:cap(list)])
		}
		want = want.behind("later")
		wants(t, "P6.11, behind another record", j, want)
		wants(t, "P6.11, on the disk", opened(t, "P6.11", d), want)
	}
}

// P6.11: of a disk that holds nothing nothing is answered, nil or empty.
func TestNothing(t *testing.T) {
	j := opened(t, "P6.11", empty(t, 1000))
	if len(j.Image()) != 0 || len(j.Records()) != 0 {
		t.Errorf("P6.11: %q, %q", j.Image(), j.Records())
	}
	answers(t, "P6.11, nil", j.Append(nil), api.OK)
	answers(t, "P6.11, empty", j.Append([]byte{}), api.OK)
	wants(t, "P6.11", j, state{"", []string{"", ""}, 3})
	answers(t, "P6.11, empty", j.Snapshot([]byte{}), api.OK)
	wants(t, "P6.11", j, state{next: 3})
}

// P6.11: two journals on two disks, told by turns, are as each alone.
func TestTwo(t *testing.T) {
	tell := func(j *Journal, step int, word string) {
		switch step % 5 {
		case 0, 1, 3:
			j.Append([]byte(word + fmt.Sprint(step)))
		case 2:
			j.Sync()
		case 4:
			j.Snapshot([]byte(word + fmt.Sprint(step)))
		}
	}
	alone := func(word string) (*disk.Disk, *Journal) {
		d := empty(t, 10000)
		j := opened(t, "P6.11", d)
		for step := range 13 {
			tell(j, step, word)
		}
		return d, j
	}
	d, e := empty(t, 10000), empty(t, 10000)
	j, k := opened(t, "P6.11", d), opened(t, "P6.11", e)
	for step := range 13 {
		tell(j, step, "one")
		tell(k, step, "other")
	}
	c, one := alone("one")
	f, other := alone("other")
	wants(t, "P6.11, the first one", j, told(one))
	wants(t, "P6.11, the second one", k, told(other))
	lies(t, "P6.11, the first one", d, view(c))
	lies(t, "P6.11, the second one", e, view(f))
	d.Arm(0)
	answers(t, "P6.11, one is off", j.Append(nil), api.ErrDiskDown)
	answers(t, "P6.11, the other is not", k.Append(nil), api.OK)
	wants(t, "P6.11, one is off", j, told(one))
}
