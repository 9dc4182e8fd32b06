package world

import (
	"fmt"
	"strings"
	"testing"

	"escapement/api"
	"escapement/crew"
)

// The chapter's mill, and a script's beginning with it: six lines.
const (
	mill = "plan mill deadline 500\nnode saw lane 1 budget 2 close 10 backoff 4 to 8\nnode pack lane 1 budget 1 close 10\n  needs saw\nend\n"
	head = "disk 100000\n" + mill
)

// plays holds that a script has a transcript.
func plays(t *testing.T, promise, script, want string) {
	t.Helper()
	got, line, code := Run(script)
	if got != want || line != 0 || code != api.OK {
		t.Errorf("%s: of the script\n%s\nthe transcript is (line %d, code %d)\n%s\nwant\n%s", promise, shown(script), line, code, got, want)
	}
}

// refuses holds that a script is refused, at a line, and that nothing else is told.
func refuses(t *testing.T, promise, script string, line int, code api.Errno) {
	t.Helper()
	if text, at, got := Run(script); text != "" || at != line || got != code {
		t.Errorf("%s: the script\n%s\nis answered line %d, code %d, %q; want line %d, code %d", promise, shown(script), at, got, text, line, code)
	}
}

// wrong holds that a script is refused for a line.
func wrong(t *testing.T, script string, line int) {
	t.Helper()
	refuses(t, "P21.1", script, line, api.ErrWorldLine)
}

// shown is a text that is short enough to be looked at.
func shown(text string) string {
	if len(text) > 4000 {
		return fmt.Sprintf("%q .. %q (%d bytes)", text[:1500], text[len(text)-1500:], len(text))
	}
	return text
}

// The chapter's examples.
func TestExamples(t *testing.T) {
	script := head + "submit mill\npoll 1 by 7\ntick 10\npoll 1 by 7\ntick 4\npoll 1 by 7\nwork 2\nnow\n"
	want := `7 submit ok 1
  0 run 1 submitted due 500
  0 run 1 ready node 0
8 poll ok token 1 run 1 node saw attempt 1 until 10
  0 run 1 leased node 0 attempt 1 token 1 due 10
9 tick ok
  10 run 1 failed node 0 attempt 1 closed
  10 run 1 backoff node 0 attempt 1 due 14
10 poll refused 145
11 tick ok
  14 run 1 ready node 0
12 poll ok token 2 run 1 node saw attempt 2 until 24
  14 run 1 leased node 0 attempt 2 token 2 due 24
13 work ok
  14 run 1 done node 0 attempt 2
  14 run 1 ready node 1
14 now 14
`
	plays(t, "examples", script, want)
	saw := fmt.Sprintf("%x", crew.Work("saw", nil))
	if len(saw) != 8 {
		t.Fatal(saw)
	}
	plays(t, "examples", script+"crash\nrun 1\nwork 2\n", want+"15 crash ok 14\n16 run live submitted 0\n  saw done 2 "+saw+"\n  pack ready 0\n17 work refused 146\n")
	wrong(t, "disk 99999999999", 1)
	wrong(t, "now", 1)
	wrong(t, "", 1)
	wrong(t, "disk 0\nplan a\nend", 2)
}

// P21.1: scripts of MaxSource bytes and of one more, whatever the bytes are, and whatever else is wrong.
func TestBytes(t *testing.T) {
	for _, unit := range []string{" ", "\t", "\n", "#", " #", "\n\t# now", "\n\n \t"} {
		script := head + "now #"
		fill := strings.Repeat(unit, api.MaxSource)
		plays(t, "P21.1", script+fill[:api.MaxSource-len(script)], "7 now 0\n")
		for _, more := range []int{1, 2, 4096, api.MaxSource} {
			refuses(t, "P21.1", script+strings.Repeat(unit, api.MaxSource*2)[:api.MaxSource-len(script)+more], 0, api.ErrWorldLong)
		}
	}
	for _, x := range []struct {
		script string
		line   int
	}{{"now\n", 1}, {"disk 0\nend\n", 2}, {"disk 99999999999\n", 1}, {"disk 0\nplan a\nend\n", 2}, {"disk 0\n" + mill + "what\n", 7}} {
		full := x.script + strings.Repeat(" ", api.MaxSource-len(x.script))
		wrong(t, full, x.line)
		refuses(t, "P21.1", full+" ", 0, api.ErrWorldLong)
	}
	wrong(t, strings.Repeat(" ", api.MaxSource), 1)
	wrong(t, strings.Repeat("\n", api.MaxSource), api.MaxSource+1)
	wrong(t, strings.Repeat("x", api.MaxSource), 1)
	refuses(t, "P21.1", strings.Repeat(" ", api.MaxSource+1), 0, api.ErrWorldLong)
	refuses(t, "P21.1", strings.Repeat("\n", api.MaxSource+1), 0, api.ErrWorldLong)
	refuses(t, "P21.1", strings.Repeat("x", 1<<20), 0, api.ErrWorldLong)
}

// P21.1: just as many lines that say something as may be, and one more; others do not count.
func TestManyLines(t *testing.T) {
	told := func(first, step, count int) string {
		var b strings.Builder
		for i := range count {
			fmt.Fprintf(&b, "%d now 0\n", first+i*step)
		}
		return b.String()
	}
	plays(t, "P21.1", "disk 0\n"+strings.Repeat("now\n", 1999), told(2, 1, 1999))
	plays(t, "P21.1", "disk 0\n"+strings.TrimSuffix(strings.Repeat("now\n", 1999), "\n"), told(2, 1, 1999))
	refuses(t, "P21.1", "disk 0\n"+strings.Repeat("now\n", 2000), 0, api.ErrWorldLong)
	refuses(t, "P21.1", "disk 0\n"+strings.Repeat("now\n", 1999)+"\n\nnow", 0, api.ErrWorldLong)
	plays(t, "P21.1", "disk 0\n"+strings.Repeat("# now\nnow #\n\t \n", 1999), told(3, 3, 1999))
	refuses(t, "P21.1", "disk 0\n"+strings.Repeat("# now\nnow #\n\t \n", 2000), 0, api.ErrWorldLong)
	// Those within a plan count, and its end.
	plays(t, "P21.1", head+strings.Repeat("now\n", 1994), told(7, 1, 1994))
	refuses(t, "P21.1", head+strings.Repeat("now\n", 1995), 0, api.ErrWorldLong)
	sparse := "disk 0\nplan a deadline 5\n" + strings.Repeat("# a remark\n\n", 1000) + "node b lane 0 budget 1 close 1\nend\n"
	plays(t, "P21.1", sparse+strings.Repeat("now\n", 1996), told(2005, 1, 1996))
	refuses(t, "P21.1", sparse+strings.Repeat("now\n", 1997), 0, api.ErrWorldLong)
	// It is ahead of all else that is wrong.
	wrong(t, strings.Repeat("what\n", 2000), 1)
	refuses(t, "P21.1", strings.Repeat("what\n", 2001), 0, api.ErrWorldLong)
	wrong(t, "disk 99999999999\n"+strings.Repeat("now\n", 1999), 1)
	refuses(t, "P21.1", "disk 99999999999\n"+strings.Repeat("now\n", 2000), 0, api.ErrWorldLong)
}

// P21.1: no line says something.
func TestNothing(t *testing.T) {
	for _, script := range []string{"", " ", "\t", "\n", "\n\n\n", " \t \n\t", "#", "##", "# disk 0", " #\n\t# x\n\n#\xff", "#\r\n", "#\x00", "\n# x\n"} {
		wrong(t, script, strings.Count(script, "\n")+1)
	}
}

// everyLine has each form of a line, behind head; each may stand there.
func everyLine() []string {
	return []string{
		"submit mill", "submit mill key k", "poll 1 by 7", "beat 1", "fail 1", "complete 1", "complete 1 0aff", "work 1", "cancel 1", "forget 1", "draw 7", "tick 1", "compact",
		"crew 2 seed 0", "schedule noon plan mill from 0 at * * * * *", "drop noon", "fire", "arm 0", "crash", "crash 1", "crash 1 0 3", "reopen", "spoil 1 at 0 mask 1",
		"now", "ready 1", "due", "run 1", "segments",
	}
}

// P21.1: the first line that says something is the disk's, and no other one is.
func TestDiskLine(t *testing.T) {
	for _, ahead := range []string{"", "\n", "# disk 0\n\n \t\n"} {
		place := 1 + strings.Count(ahead, "\n")
		for _, first := range append(everyLine(), "end", "plan mill deadline 500", "disk", "disk x", "disk 0 0", "disk 01", "disk -1", "disk +1", "Disk 0", "disks 0", "0", "disk0", "disk 4611686018427387905", "disk 0\r") {
			wrong(t, ahead+first, place)
			wrong(t, ahead+first+"\ndisk 0\nnow", place)
		}
		wrong(t, ahead+mill+"disk 0\nnow", place)
		plays(t, "P21.1", ahead+"disk 0", "")
		plays(t, "P21.1", ahead+" disk\t0 # a remark\n"+ahead+"now", fmt.Sprint(2*place, " now 0\n"))
	}
	for _, second := range []string{"disk 0", "disk 100000", "disk", "disk x", " disk 5 # a remark"} {
		wrong(t, "disk 0\n"+second, 2)
		wrong(t, head+"now\n\n"+second+"\nnow", 9)
		wrong(t, head+second+"\nwhat", 7)
		wrong(t, head+"what\n"+second, 7)
	}
}

// P21.1: a capacity that disk.New refuses, and whether another line is wrong.
func TestCapacity(t *testing.T) {
	for _, n := range []string{"0", "1", "67108863", "67108864"} {
		plays(t, "P21.1", "\ndisk "+n+"\nnow", "3 now 0\n")
	}
	for _, n := range []string{"67108865", "99999999999", "4611686018427387904"} {
		wrong(t, "disk "+n, 1)
		wrong(t, "\n\n# x\ndisk "+n+"\n\nnow\n", 4)
		wrong(t, "disk "+n+"\n"+mill+"submit mill\n", 1)
		wrong(t, "disk "+n+"\nnow\nnow now\n", 3)
		wrong(t, "disk "+n+"\nend", 2)
		wrong(t, "disk "+n+"\ndisk 0", 2)
		wrong(t, "disk "+n+"\ndisk "+n, 2)
		wrong(t, "disk "+n+"\nsubmit mill", 2)
		wrong(t, "disk "+n+"\nplan mill deadline 500\nnode saw\nend", 3)
		wrong(t, "disk "+n+"\n"+strings.TrimSuffix(mill, "end\n"), 2)
	}
}

// P21.1: each line with a word less, a word more, a word that is another one: the model's forms say whether that is a line.
func TestNoLine(t *testing.T) {
	for _, line := range everyLine() {
		alike(t, "P21.1", head+line)
		words := strings.Split(line, " ")
		put := func(at, drop int, more ...string) {
			list := append([]string{}, words[:at]...)
			list = append(append(list, more...), words[at+drop:]...)
			alike(t, "P21.1", head+strings.Join(list, " "))
		}
		for at := range words {
			put(at, 1)
			put(at, 1, strings.ToUpper(words[at]))
			put(at, 1, words[at]+"x")
			put(at, 1, "x"+words[at])
			put(at, 1, words[at]+"\r")
			put(at, 1, words[at]+"#")
			put(at, 1, words[at][:len(words[at])-1])
			for _, other := range []string{"x", "0", "1", "by", "key", "seed", "plan", "from", "at", "mask", "mill", "end", "*", "-"} {
				put(at, 0, other)
				put(at, 1, other)
			}
		}
		put(len(words), 0, "x")
		put(len(words), 0, "0")
		put(len(words), 0, words...)
	}
	for _, line := range []string{"what", "Now", "NOW", "now.", "nowadays", "no", "ends", "-", "*", "\x00", "\r", "now\r", "now\x0b", "now\x0c1", "now\xa0", "now\xc2\xa0", "\xff", "submit", "node a lane 0 budget 1 close 1", "needs saw", "after saw", "deadline 5", "escapement", "N", "NAME"} {
		wrong(t, head+line, 7)
		wrong(t, head+"\nnow\n"+line+"\nnow\nwhat", 9)
	}
}

// P21.1: numbers, wherever one stands in a line.
func TestNumbers(t *testing.T) {
	lines := []string{"poll N by 0", "poll 0 by N", "beat N", "fail N", "complete N", "complete N 0a", "work N", "cancel N", "forget N", "draw N", "tick N", "crew N seed 0", "crew 0 seed N",
		"schedule noon plan mill from N at * * * * *", "arm N", "crash N", "crash 0 N", "crash N 0 0", "spoil N at 0 mask 0", "spoil 0 at N mask 0", "spoil 0 at 0 mask N", "ready N", "run N"}
	for _, line := range lines {
		for _, n := range []string{"0", "1", "9", "10", "255", "256", "9223372036854", "999999999999999999", "4611686018427387903", "4611686018427387904"} {
			script := head + strings.Replace(line, "N", n, 1)
			if _, at, code := Run(script); at != 0 || code != api.OK {
				t.Errorf("P21.1: %s: line %d, code %d", script[len(head):], at, code)
			}
			alike(t, "P21.1", script)
		}
		for _, n := range []string{"4611686018427387905", "4611686018427387910", "4611686018427388000", "4700000000000000000", "5000000000000000000", "9223372036854775807", "9223372036854775808", "18446744073709551615", "18446744073709551616", "18446744073709551617",
			"46116860184273879040", "100000000000000000000", "99999999999999999999999999999999999999", "00", "01", "007", "04611686018427387904", "+1", "-1", "-0", "+0", "1.", ".1", "1.0", "1e3", "0x1", "1_0", "1,0", "a", "x1", "1x", "\u0661", "\uff11", "1\u0661", "\xff", "1\xff", "-", "*", "''", "1\r"} {
			wrong(t, head+strings.Replace(line, "N", n, 1), 7)
		}
	}
}

// P21.1: bytes as HEX, as they may be written and as they may not.
func TestHex(t *testing.T) {
	for word, want := range map[string]string{"00": "00", "0a": "0a", "ff": "ff", "0123456789abcdef": "0123456789abcdef", "99": "99", strings.Repeat("5c", 64): strings.Repeat("5c", 64)} {
		plays(t, "P21.1", "disk 100000\n"+oneNode+"submit one\npoll 0 by 0\ncomplete 1 "+word+"\nrun 1", oneTold+"7 complete ok\n  0 run 1 done node 0 attempt 1\n  0 run 1 ended succeeded\n8 run succeeded submitted 0 ended 0\n  a done 1 "+want+"\n")
	}
	// More bytes than a result may have are a line all the same.
	plays(t, "P21.1", "disk 100000\n"+oneNode+"submit one\npoll 0 by 0\ncomplete 1 "+strings.Repeat("5c", 65), oneTold+"7 complete refused 121\n")
	for _, word := range []string{"0", "a", "000", "0af", "0A", "FF", "aA", "Ff", "0g", "g0", "/0", ":0", "`a", "a`", "0x", "0x0a", "-", "--", "+a", "é", "\xff\xff", "a\xff", "\u0661", "\u0661\u0661", "0\u00e9a", strings.Repeat("0", 129), "0a 0a", "0a -"} {
		wrong(t, head+"complete 1 "+word, 7)
	}
	for _, line := range []string{"complete 1 #0a", "complete 1 # 0", "complete 1\t"} {
		plays(t, "P21.1", head+line, "7 complete refused 146\n")
	}
}

// A plan of one node, and what a script tells that submits it in line 5, and polls it in line 6.
const (
	oneNode = "plan one deadline 90\nnode a lane 0 budget 1 close 9\nend\n"
	oneTold = "5 submit ok 1\n  0 run 1 submitted due 90\n  0 run 1 ready node 0\n6 poll ok token 1 run 1 node a attempt 1 until 9\n  0 run 1 leased node 0 attempt 1 token 1 due 9\n"
)

// P21.1: end where there is no plan.
func TestEnd(t *testing.T) {
	wrong(t, "disk 0\nend", 2)
	wrong(t, "disk 0\n\n end # of what\nnow", 3)
	wrong(t, head+"end", 7)
	wrong(t, head+"now\nend\nwhat", 8)
	wrong(t, head+"end end", 7)
	wrong(t, head+mill+"end", 12)
	// The first one ends the plan, with a remark behind it or not.
	for _, end := range []string{"end", " end", "\tend\t ", "end#", "end # of it", " end#end"} {
		plays(t, "P21.1", "disk 0\n"+strings.Replace(mill, "end", end, 1)+"now", "7 now 0\n")
		plays(t, "P21.1", "disk 0\n"+strings.Replace(mill, "end", end, 1), "")
		plays(t, "P21.1", "disk 0\n"+strings.TrimSuffix(strings.Replace(mill, "end", end, 1), "\n"), "")
	}
}

// P21.1: a plan that no end comes for.
func TestNoEnd(t *testing.T) {
	open := strings.TrimSuffix(mill, "end\n")
	for _, rest := range []string{"", "now\n", "now\nnow", "ends\n", "End\n", "END", "end end\n", "end x", "# end\n", "end\r\n", "x end", "plan other deadline 5\n", "disk 5\n", "what\n"} {
		wrong(t, "disk 0\n"+open+rest, 2)
		wrong(t, "disk 0\n\nnow\n"+open+rest, 4)
		wrong(t, head+open+rest, 7)
	}
	for _, first := range []string{"plan", "plan a", "plan a deadline 5", "plan A deadline 5", "plan end", " plan\tx # y"} {
		wrong(t, "disk 0\nnow\n"+first, 3)
		wrong(t, "disk 0\nnow\n"+first+"\nnow", 3)
	}
	// What is wrong ahead of it counts, what is wrong in it, or behind it, does not.
	wrong(t, "disk 0\nwhat\n"+open, 2)
	wrong(t, "disk 0\nplan a deadline 0\nnode\nneeds\n", 2)
}

// P21.1: a plan whose source is refused, by each of its errors: the line of the script is told, not the source's.
func TestPlanRefused(t *testing.T) {
	const plan, a, b = "plan p deadline 9\n", "node a lane 0 budget 1 close 1\n", "node b lane 0 budget 1 close 1\n"
	for _, x := range []struct {
		source string
		line   int // of the source
	}{
		{"plan\n", 1}, {"plan p\n", 1}, {"plan p deadline\n", 1}, {"plan p deadline 01\n" + a, 1}, {"plan P deadline 9\n" + a, 1}, {"plan p deadline 9 9\n" + a, 1}, {"plan p deadline 4611686018427387904\n" + a, 1},
		{"plan p deadline 0\n" + a, 1}, {plan, 1}, {plan + "\n# no node\n", 1}, {plan + strings.Repeat(a, 65), 1},
		{plan + a + "needs a\n" + b, 2}, {plan + a + b + "needs c\n", 4}, {plan + a + "after c\n" + b, 3}, {plan + "needs a\n" + a, 2}, {plan + a + "wants b\n" + b, 3}, {plan + a + plan, 3}, {plan + a + "disk 5\n" + b, 3}, {plan + a + "now\n", 3}, {plan + a + "end x\n", 3},
		{plan + "node a lane 16 budget 1 close 1\n" + b, 2}, {plan + a + "node b lane 0 budget 0 close 1\n" + b, 3}, {plan + a + a, 3}, {plan + a + "\n# more\n" + a, 5}, {plan + a + "\n\nwhat # is that\n" + b, 5},
		{plan + a + "needs b\n" + b + "after a\n", 2},
	} {
		whole := x.source + "end\n"
		for _, ahead := range []string{"disk 0\n", "disk 0\n\n# x\n", "\n\ndisk 0\nnow\n", head, "disk 99999999999\n"} {
			at := strings.Count(ahead, "\n") + x.line
			for _, behind := range []string{"", "now\n", "what\n", "disk 5\n", "submit p\n", "end\n", "plan q\nend\n"} {
				wrong(t, ahead+whole+behind, at)
			}
		}
		wrong(t, "disk 0\nwhat\n"+whole, 2)
	}
	// No script of MaxSource bytes has a source of more, and none whose first line says nothing: so no source is refused at line 0. It would be the plan's fault.
	for place := 1; place < 9; place++ {
		if got := placeIn(place, 0); got != place {
			t.Errorf("P21.1: line 0 of the source of a plan in line %d is told as line %d", place, got)
		}
		for line := 1; line < 9; line++ {
			if got := placeIn(place, line); got != place+line-1 {
				t.Errorf("P21.1: line %d of the source of a plan in line %d is told as line %d", line, place, got)
			}
		}
	}
}

// P21.1: a source as long as a script can have one, and what stands in it that is no source's business.
func TestPlanLong(t *testing.T) {
	ahead, source := "disk 0\n", "plan p deadline 9\nnode a lane 0 budget 1 close 1\n"
	fill := strings.Repeat("#", api.MaxSource-len(ahead+source+"\nend"))
	plays(t, "P21.1", ahead+source+fill+"\nend", "")
	wrong(t, ahead+"plan p deadline 9\n"+strings.Repeat("\n", api.MaxSource-len(ahead+source+"\nend"))+"node a lane 0 budget 1 close 0\nend", 65536-len(ahead+source+"\nend")+3)
}

// P21.1: a plan that is named must stand ahead of the line.
func TestNamed(t *testing.T) {
	lines := []string{"submit NAME", "submit NAME key k", "submit NAME key NAME", "schedule noon plan NAME from 0 at * * * * *"}
	for _, line := range lines {
		named := func(name string) string { return strings.ReplaceAll(line, "NAME", name) + "\n" }
		wrong(t, "disk 0\n"+named("mill"), 2)
		wrong(t, "disk 0\n"+named("mill")+mill, 2)
		wrong(t, "disk 0\nnow\n\n"+named("mill")+mill+named("mill"), 4)
		for _, name := range []string{"mil", "mills", "Mill", "MILL", "saw", "pack", "plan", "key", "one", "*", "\xff", "mill\r", strings.Repeat("m", 41)} {
			wrong(t, head+named(name), 7)
		}
		wrong(t, head+named("one")+oneNode, 7)
		// The plan of a remark is none.
		wrong(t, "disk 0\n#"+strings.ReplaceAll(strings.TrimSuffix(mill, "\n"), "\n", "\n#")+"\n"+named("mill"), 7)
		for _, script := range []string{head + named("mill"), head + oneNode + named("mill") + named("one")} {
			if _, at, code := Run(script); at != 0 || code != api.OK {
				t.Errorf("P21.1: %s: line %d, code %d", script, at, code)
			}
			alike(t, "P21.1", script)
		}
	}
	// Names that are words of lines' forms.
	for _, name := range []string{"key", "plan", "from", "at", "end", "disk", "submit", "0", "7", "n", "-", "_", ".", strings.Repeat("m", 40)} {
		script := "disk 100000\nplan " + name + " deadline 90\nnode a lane 0 budget 1 close 9\nend\nsubmit " + name + " key key\nschedule x plan " + name + " from 0 at * * * * *\nfire"
		plays(t, "P21.1", script, "5 submit ok 1\n  0 run 1 submitted due 90\n  0 run 1 ready node 0\n6 schedule ok\n7 fire ok 1\n  x 0 ok 2\n    0 run 2 submitted due 90\n    0 run 2 ready node 0\n")
	}
}

// P21.1: of two plans of one name the last one ahead of the line is meant.
func TestTwoOfOneName(t *testing.T) {
	one := "plan p deadline 10\nnode a lane 0 budget 1 close 1\nend\n"
	two := "plan p deadline 20\nnode b lane 1 budget 1 close 1\nend\n"
	q := "plan q deadline 30\nnode c lane 2 budget 1 close 1\nend\n"
	script := "disk 100000\n" + one + "submit p\nschedule x plan p from 0 at * * * * *\n" + q + two + "submit p\nfire\nsubmit q\n" + one + "submit p\nsubmit p key x@0\n"
	plays(t, "P21.1", script, `5 submit ok 1
  0 run 1 submitted due 10
  0 run 1 ready node 0
6 schedule ok
13 submit ok 2
  0 run 2 submitted due 20
  0 run 2 ready node 0
14 fire ok 1
  x 0 ok 3
    0 run 3 submitted due 10
    0 run 3 ready node 0
15 submit ok 4
  0 run 4 submitted due 30
  0 run 4 ready node 0
19 submit ok 5
  0 run 5 submitted due 10
  0 run 5 ready node 0
20 submit ok 3 again
`)
	plays(t, "P21.1", "disk 100000\n"+one+two+"submit p\nrun 1\n", "8 submit ok 1\n  0 run 1 submitted due 20\n  0 run 1 ready node 0\n9 run live submitted 0\n  b ready 0\n")
	// One that may not be is refused, though another one of its name may.
	wrong(t, "disk 0\n"+one+strings.Replace(two, "lane 1", "lane 16", 1)+"submit p", 6)
}

// P21.1: what parts words, what a remark is, and that nothing else does.
func TestWords(t *testing.T) {
	for _, line := range []string{"poll 1 by 7", " poll 1 by 7", "\tpoll\t1\tby\t7\t", "  poll \t 1  by\t\t7 \t", "poll 1 by 7#", "poll 1 by 7 # and then", "poll 1 by 7#8", "poll 1 by 7 #poll # poll", "poll 1 by 7\t#\xff\x00\r"} {
		plays(t, "P21.1", head+line, "7 poll refused 145\n")
		plays(t, "P21.1", head+"\n"+line+"\n", "8 poll refused 145\n")
	}
	for _, line := range []string{"poll 1by 7", "poll 1 by7", "poll1 by 7", "poll 1 # by 7", "poll 1 by #7", "po#ll 1 by 7", "poll 1 by 7\r", "poll\r1 by 7", "poll 1\u00a0by 7", "poll\v1 by 7", "poll\f1 by 7", "\ufeffpoll 1 by 7", "poll 1 by 7\x00", "poll 1 by 7 \u3000"} {
		wrong(t, head+line, 7)
	}
	// Lines that say nothing are counted, and LF alone ends a line.
	plays(t, "P21.1", "# x\n\n disk 0\n\t\n#\nnow\n\n \t# now\n  now # now\n#", "6 now 0\n9 now 0\n")
	plays(t, "P21.1", "disk 0\nnow #\r now\nnow", "2 now 0\n3 now 0\n")
	wrong(t, "disk 0\r\nnow\r\n", 1)
	// A key is a word as it stands.
	for _, key := range []string{"k", "key", "\xff", "\x00", "\r", "é", "ü\xc3", "0", "-", strings.Repeat("k", 40), strings.Repeat("é", 20)} {
		plays(t, "P21.1", "disk 100000\n"+oneNode+"submit one key "+key+"\nsubmit one key "+key+"#x\nsubmit one key "+key+"x", oneTold[:strings.Index(oneTold, "6 ")]+"6 submit ok 1 again\n"+otherKey(key))
	}
	plays(t, "P21.1", "disk 100000\n"+oneNode+"submit one key "+strings.Repeat("k", 41), "5 submit refused 121\n")
}

// otherKey is what is told of a submission, in line 7, with a key and a letter behind it.
func otherKey(key string) string {
	if len(key) == api.MaxKey {
		return "7 submit refused 121\n"
	}
	return "7 submit ok 2\n  0 run 2 submitted due 90\n  0 run 2 ready node 0\n"
}

// P21.1: nothing is told where a line is wrong, wherever it stands; the first one counts.
func TestFirstWrong(t *testing.T) {
	whole := strings.Split(head+strings.Join(everyLine(), "\n"), "\n")
	for at := 1; at <= len(whole); at++ {
		if at >= 2 && at <= 5 {
			continue // within the plan: TestPlanRefused
		}
		for _, other := range []string{"what", "disk 0 0", "now now", "run x"} {
			script := append([]string{}, whole[:at]...)
			script = append(append(script, other), whole[at:]...)
			wrong(t, strings.Join(script, "\n"), at+1)
			wrong(t, strings.Join(append(script, "worse"), "\n"), at+1)
		}
	}
}
