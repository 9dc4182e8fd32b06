package world

import (
	"fmt"
	"regexp"
	"slices"
	"strings"
	"sync"
	"testing"

	"escapement/api"
)

// P21.2: what a transcript hangs on; and scripts by chance, each held against the model.

// rows are scripts by chance: without losses of power and with them, on disks with room and without.
func rows(t *testing.T, count, lines int, each func(seed int, script string)) {
	t.Helper()
	for seed := range count {
		r := chance(seed)
		each(seed, anyScript(r, 100000, lines, false))
		each(seed, anyScript(r, 100000, lines, true))
		each(seed, anyScript(r, 300+r.Intn(1500), lines, true))
	}
}

// Each word of a line is played, and refused by all that the layers below have for it, as the model has it.
func TestScripts(t *testing.T) {
	codes := map[string]int{}
	rows(t, 150, 90, func(seed int, script string) {
		if _, code := same(t, fmt.Sprint("P21.2, seed ", seed), script, codes); code != api.OK {
			t.Fatalf("seed %d: the script is refused by %d:\n%s", seed, code, script)
		}
	})
	for _, x := range []string{
		"submit 0", "submit 54", "submit 56", "submit 141", "submit 170", "poll 0", "poll 54", "poll 56", "poll 145", "poll 170", "beat 0", "beat 146", "beat 170", "fail 0", "fail 146", "fail 170",
		"complete 0", "complete 146", "complete 170", "work 0", "work 54", "work 146", "work 170", "cancel 0", "cancel 147", "cancel 148", "cancel 170", "forget 0", "forget 147", "forget 148", "forget 170", "draw 0", "draw 54", "draw 170",
		"tick 0", "tick 54", "tick 56", "tick 170", "compact 0", "compact 54", "compact 56", "compact 170", "crew 0", "crew 54", "crew 56", "crew 170", "crew 190", "schedule 0", "schedule 41", "schedule 180", "drop 0", "drop 182", "fire 0", "fire 170",
		"fired 0 false", "fired 0 true", "fired 54 false", "fired 56 false", "fired 141 false", "fired 170 false", "arm 0", "arm 56", "crash 0", "reopen 0", "reopen 56", "spoil 0", "spoil 53", "spoil 55", "spoil 56",
		"now 0", "now 170", "ready 0", "ready 170", "due 0", "due 170", "run 0", "run 147", "run 170", "segments 0", "segments 56",
	} {
		if codes[x] == 0 {
			t.Errorf("P21.2: no script of this test has a line that is answered so: %s; %v", x, codes)
		}
	}
}

// P21.1: scripts in which something was turned: a letter, a word, a line. Most are refused; each at the model's line.
func TestTurnedScripts(t *testing.T) {
	played, refused, places := 0, 0, map[int]int{}
	for seed := range 2000 {
		r := chance(1000 + seed)
		script := []byte(anyScript(r, one(r, 0, 5000, 67108864, 67108865), 12, true))
		for range 1 + r.Intn(2) {
			at := r.Intn(len(script))
			switch r.Intn(5) {
			case 0:
				script[at] = byte(r.Intn(256))
			case 1:
				script[at] = one[byte](r, ' ', '\n', '#', '\t', '0', '1', 'n', '\r', 'A')
			case 2:
				script = slices.Delete(script, at, min(len(script), at+1+r.Intn(3)))
			case 3:
				script = slices.Insert(script, at, []byte(one(r, " ", "\n", "#", "0", "\nend\n", "\nplan p\n", "\ndisk 5\n", "\nplan p deadline 5\n", " end", "\n\n"))...)
			case 4:
				lines := strings.Split(string(script), "\n")
				i, j := r.Intn(len(lines)), r.Intn(len(lines))
				lines[i], lines[j] = lines[j], lines[i]
				script = []byte(strings.Join(lines, "\n"))
			}
			if len(script) == 0 {
				script = []byte("\n")
			}
		}
		if _, code := same(t, fmt.Sprint("P21.1, seed ", seed), string(script), nil); code == api.OK {
			played++
			continue
		}
		refused++
		_, line, _ := Run(string(script))
		places[line]++
	}
	if played < 50 || refused < 100 || len(places) < 15 {
		t.Errorf("P21.1: %d scripts were played, %d refused, at %v", played, refused, places)
	}
}

// P21.1: texts of any bytes, and of any words of lines.
func TestAnyText(t *testing.T) {
	r := chance(7)
	words := strings.Split("disk plan end submit poll by tick now due fire crash run 0 1 2 mill key at mask spoil node lane budget close deadline # \t \n \n \n \xff \r x", " ")
	for range 3000 {
		script := one(r, "", "disk 9", "disk 0\n", head)
		for range r.Intn(20) {
			script += one(r, one(r, words...), string(byte(r.Intn(256)))) + one(r, " ", " ", "", "\n")
		}
		alike(t, "P21.1", script)
	}
}

// P21.2: the same script has the same transcript again, also when others are played at the same time.
func TestAgain(t *testing.T) {
	var scripts, want []string
	rows(t, 4, 60, func(seed int, script string) {
		text, _, code := Run(script)
		if code != api.OK || text == "" {
			t.Fatal(code)
		}
		scripts, want = append(scripts, script), append(want, text)
	})
	var all sync.WaitGroup
	for i := range scripts {
		for range 3 {
			all.Go(func() {
				// The text is another one at another place.
				if text, line, code := Run(strings.Clone(scripts[i])); text != want[i] || line != 0 || code != api.OK {
					t.Errorf("P21.2: played again, the script\n%s\nhas the transcript (line %d, code %d)\n%s\nwant\n%s", scripts[i], line, code, text, want[i])
				}
			})
		}
	}
	all.Wait()
}

var numberAhead = regexp.MustCompile(`(?m)^[0-9]+`)

// P21.2: lines that say nothing change but the numbers ahead, wherever they are put but within a plan.
func TestLinesThatSayNothing(t *testing.T) {
	rows(t, 12, 40, func(seed int, script string) {
		r := chance(seed + 77)
		text, _, code := Run(script)
		if code != api.OK {
			t.Fatal(code)
		}
		var more []string
		places := map[string]string{} // the numbers of lines, as they were, as they are then
		within := false
		lines := strings.Split(script, "\n")
		for i, line := range lines {
			for !within && r.Intn(3) == 0 {
				more = append(more, one(r, "", " ", "\t \t", "#", "# now", " # plan x deadline 5", "#end", "\t#\xff"))
			}
			more = append(more, line)
			places[fmt.Sprint(i+1)] = fmt.Sprint(len(more))
			switch words := wordsOf(line); {
			case len(words) > 0 && words[0] == "plan":
				within = true
			case len(words) == 1 && words[0] == "end":
				within = false
			}
		}
		want := numberAhead.ReplaceAllStringFunc(text, func(n string) string { return places[n] })
		plays(t, fmt.Sprint("P21.2, seed ", seed), strings.Join(more, "\n"), want)
	})
	// As many bytes as may be; one more is too long.
	script := head + "submit mill\n"
	text, _, _ := Run(script)
	room := api.MaxSource - len(script)
	plays(t, "P21.2", strings.Repeat("\n", room)+script, strings.Replace(text, "7 ", fmt.Sprint(room+7, " "), 1))
	refuses(t, "P21.2", strings.Repeat("\n", room+1)+script, 0, api.ErrWorldLong)
}

// P21.2: cut behind a line, a script has a transcript that begins the whole one's.
func TestCut(t *testing.T) {
	rows(t, 6, 40, func(seed int, script string) {
		text, _, code := Run(script)
		if code != api.OK {
			t.Fatal(code)
		}
		lines := strings.SplitAfter(script, "\n")
		last, within := "", false
		for i, line := range lines {
			switch words := wordsOf(strings.TrimSuffix(line, "\n")); {
			case len(words) > 0 && words[0] == "plan":
				within = true
			case len(words) == 1 && words[0] == "end":
				within = false
			}
			if within {
				continue
			}
			cut := strings.Join(lines[:i+1], "")
			got, at, code := Run(cut)
			if code != api.OK || at != 0 || !strings.HasPrefix(text, got) || !strings.HasPrefix(got, last) {
				t.Fatalf("P21.2: cut behind line %d, the script\n%s\nhas the transcript (line %d, code %d)\n%s\nbehind\n%s", i+1, script, at, code, got, last)
			}
			// The last LF may be missing.
			if bare, at, code := Run(strings.TrimSuffix(cut, "\n")); bare != got || at != 0 || code != api.OK {
				t.Fatalf("P21.2: without its last LF, the script\n%s\nhas the transcript (line %d, code %d)\n%s\nwant\n%s", cut, at, code, bare, got)
			}
			last = got
		}
		if last != text {
			t.Fatalf("P21.2: %q is not all of %q", last, text)
		}
	})
}

// Each line that does or tells something has one line in the transcript with its number ahead, in order, and no other line has.
func TestOneLineEach(t *testing.T) {
	rows(t, 10, 60, func(seed int, script string) {
		text, _, _ := Run(script)
		var want, got []string
		within := false
		for i, line := range strings.Split(script, "\n") {
			words := wordsOf(line)
			switch {
			case len(words) == 0 || words[0] == "disk":
			case words[0] == "plan":
				within = true
			case words[0] == "end":
				within = false
			case !within:
				want = append(want, fmt.Sprint(i+1, " ", words[0]))
			}
		}
		for _, line := range strings.Split(strings.TrimSuffix(text, "\n"), "\n") {
			if !strings.HasPrefix(line, "  ") {
				got = append(got, strings.Join(strings.Split(line, " ")[:2], " "))
			}
			if strings.Contains(strings.TrimLeft(line, " "), "  ") || strings.TrimRight(line, " ") != line || strings.ContainsAny(line, "\t#") {
				t.Fatalf("P21.2: %q", line)
			}
		}
		if !slices.Equal(got, want) || !strings.HasSuffix(text, "\n") {
			t.Fatalf("P21.2: the script\n%s\nhas the lines %q; want %q", script, got, want)
		}
	})
}

// As much as a script can ask for: many runs with many nodes, through all their attempts, in few lines.
func TestGreat(t *testing.T) {
	var b strings.Builder
	b.WriteString("disk 67108864\nplan p deadline 1099511627776\n")
	for i := range 64 {
		fmt.Fprintf(&b, "node n%d lane %d budget 100 close 5 beat 3 backoff 1 to 1\n", i, i%16)
	}
	b.WriteString("end\n")
	for range 17 {
		b.WriteString("submit p\n")
	}
	for range 100 {
		b.WriteString("crew 16 seed 2\ntick 9\n")
	}
	b.WriteString("tick 4611686018427387904\n")
	for run := range 17 {
		fmt.Fprintf(&b, "run %d\n", run+1)
	}
	b.WriteString("compact\nreopen\nsegments\n")
	alike(t, "P21.2", b.String())
}
