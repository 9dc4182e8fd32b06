package world

import (
	"fmt"
	"strings"
	"testing"

	"escapement/api"
	"escapement/engine"
	"escapement/image"
	"escapement/sum"
)

// The transcript of lines that are about the disk, and of all lines where there is no store: P21.2.

// imageBytes is how many bytes the image of an engine has whose clock stands at a time.
func imageBytes(t *testing.T, now int) int {
	t.Helper()
	e := engine.New()
	e.Do(api.Op{Kind: api.OpTick, Ticks: now})
	b, code := image.Save(e)
	if code != api.OK {
		t.Fatal(code)
	}
	return len(b)
}

// What the disk lists: nothing, a segment, several; and what compact leaves.
func TestSegments(t *testing.T) {
	talks(t, "disk 100000\n", fmt.Sprintf(`
> segments
segments 0
> tick 5
tick ok
> segments
segments 1
  1 60
> tick 300
tick ok
> poll 0 by 0
poll refused 145
> segments
segments 1
  1 80
> compact
compact ok
> segments
segments 1
  2 %d
> reopen
reopen ok 305
> tick 0
tick ok
> crash
crash ok 305
> tick 0
tick ok
> segments
segments 3
  2 %d
  3 43
  4 43
> crew 1 seed 0
crew ok 0
> now
now 305
> arm 1
arm ok
> segments
segments 3
  2 %d
  3 43
  4 43
> tick 1
tick refused 56
> segments
segments refused 56
> crash
crash ok 305
> segments
segments 3
  2 %d
  3 43
  4 43
`, 41+imageBytes(t, 305), 41+imageBytes(t, 305), 41+imageBytes(t, 305), 41+imageBytes(t, 305)))
}

// Of a record that was under way, in a segment that was new, or had grown, as much is left as the fate says.
func TestFates(t *testing.T) {
	begin, told := "disk 100000\narm 1\ntick 5\n", "2 arm ok\n3 tick refused 56\n"
	for fate := range 65 {
		now := 0
		if fate > 60 {
			now = 5
		}
		plays(t, "P21.2", fmt.Sprintf("%scrash %d\nnow\n", begin, fate), fmt.Sprintf("%s4 crash ok %d\n5 now %d\n", told, now, now))
	}
	begin, told = "disk 100000\ntick 5\narm 0\ntick 7\n", "2 tick ok\n3 arm ok\n4 tick refused 56\n"
	for fate := range 25 {
		now := 5
		if fate > 18 {
			now = 12
		}
		plays(t, "P21.2", fmt.Sprintf("%scrash %d\nnow\n", begin, fate), fmt.Sprintf("%s5 crash ok %d\n6 now %d\n", told, now, now))
		plays(t, "P21.2", fmt.Sprintf("%scrash %d 0 9\nnow\n", begin, fate), fmt.Sprintf("%s5 crash ok %d\n6 now %d\n", told, now, now))
	}
	plays(t, "P21.2", begin+"crash\nnow\n", told+"5 crash ok 5\n6 now 5\n")
	plays(t, "P21.2", begin+"crash 0 100\nnow\n", told+"5 crash ok 5\n6 now 5\n")
	plays(t, "P21.2", begin+"crash 4611686018427387904\nnow\n", told+"5 crash ok 12\n6 now 12\n")
	// Several segments are open to loss, and each has its own number: 1 has grown, 2 is new; the power goes in the Sync of compact.
	kept := 41 + imageBytes(t, 5)
	begin, told = "disk 100000\ntick 5\narm 2\ncompact\n", "2 tick ok\n3 arm ok\n4 compact refused 56\n"
	for _, x := range []struct {
		fate string
		segs string
	}{{"crash", "1\n  1 60\n"}, {"crash 1", "2\n  1 60\n  2 0\n"}, {"crash 10", "2\n  1 60\n  2 9\n"}, {"crash 999", fmt.Sprintf("1\n  2 %d\n", kept)}} {
		plays(t, "P21.2", begin+x.fate+"\nsegments\n", told+"5 crash ok 5\n6 segments "+x.segs)
	}
}

// A disk is armed once, and each changing call counts; a crash makes it safe again.
func TestArm(t *testing.T) {
	talks(t, "disk 100000\n", `
> arm 3
arm ok
> tick 1
tick ok
> tick 1
tick refused 56
> tick 1
tick refused 170
> arm 5
arm refused 56
> spoil 1 at 0 mask 1
spoil refused 56
> segments
segments refused 56
> now
now 1
> compact
compact refused 170
> crash 99
crash ok 2
> tick 1
tick ok
> arm 0
arm ok
> arm 9
arm ok
> tick 1
tick ok
> crash
crash ok 4
> arm 0
arm ok
> crash
crash ok 4
> tick 0
tick ok
> arm 0
arm ok
> reopen
reopen refused 56
> now
now refused 170
> crash
crash ok 4
> arm 0
arm ok
> compact
compact refused 56
> compact
compact refused 170
> now
now 4
> reopen
reopen refused 56
> reopen
reopen refused 56
> crash
crash ok 4
`)
}

// noStore is a talk in which each line that asks a store is refused, and no other one asks one.
const noStore = `
> submit one
submit refused 170
> submit one key k
submit refused 170
> poll 0 by 0
poll refused 170
> poll 16 by 0
poll refused 170
> beat 1
beat refused 170
> beat 0
beat refused 170
> fail 1
fail refused 170
> complete 1
complete refused 170
> complete 1 0a
complete refused 170
> work 1
work refused 170
> work 2
work refused 170
> cancel 1
cancel refused 170
> forget 1
forget refused 170
> draw 1
draw refused 170
> tick 1
tick refused 170
> compact
compact refused 170
> crew 1 seed 0
crew refused 170
> crew 17 seed 0
crew refused 170
> fire
fire refused 170
> now
now refused 170
> ready 0
ready refused 170
> ready 99
ready refused 170
> due
due refused 170
> run 1
run refused 170
> schedule s plan one from 0 at * * * * *
schedule ok
> fire
fire refused 170
> schedule s plan one from 0 at * * * * *
schedule refused 180
> drop s
drop ok
> drop s
drop refused 182
`

// A run of the plan one, of which a poll was told token 1.
const polled = `
> submit one
submit ok 1
  0 run 1 submitted due 90
  0 run 1 ready node 0
> poll 0 by 0
poll ok token 1 run 1 node a attempt 1 until 9
  0 run 1 leased node 0 attempt 1 token 1 due 9
`

// Where a disk can't be opened since its power is off there is no store, till a crash has one.
func TestNoStore(t *testing.T) {
	talks(t, "disk 100000\n"+oneNode, polled+`
> arm 0
arm ok
> reopen
reopen refused 56
`+noStore+`
> arm 0
arm refused 56
> spoil 1 at 0 mask 1
spoil refused 56
> segments
segments refused 56
> reopen
reopen refused 56
`+noStore+`
> crash
crash ok 0
> now
now 0
> drop s
drop refused 182
> run 1
run live submitted 0
  a leased 1 token 1
> work 1
work ok
  0 run 1 done node 0 attempt 1
  0 run 1 ended succeeded
> run 1
run succeeded submitted 0 ended 0
  a done 1 `+hex("a")+`
`)
}

// A store that has lost its disk is one still: it tells how it stood, and refuses on its own.
func TestDead(t *testing.T) {
	talks(t, "disk 100000\n"+oneNode, polled+`
> submit one
submit ok 2
  0 run 2 submitted due 90
  0 run 2 ready node 0
> schedule s plan one from 0 at * * * * *
schedule ok
> arm 0
arm ok
> tick 3
tick refused 56
> now
now 0
> ready 0
ready 1
> due
due 9
> run 1
run live submitted 0
  a leased 1 token 1
> tick 3
tick refused 170
> submit one
submit refused 170
> poll 0 by 0
poll refused 170
> poll 16 by 0
poll refused 170
> work 1
work refused 170
> work 2
work refused 146
> compact
compact refused 170
> crew 1 seed 0
crew refused 170
> crew 17 seed 0
crew refused 190
> fire
fire ok 1
  s 0 refused 170
> run 3
run refused 147
> drop s
drop ok
> crash 99
crash ok 3
> work 1
work ok
  3 run 1 done node 0 attempt 1
  3 run 1 ended succeeded
`)
}

// The power goes within a crew's round, and within a fire: what was done till then stays.
func TestPowerWithin(t *testing.T) {
	talks(t, "disk 100000\n"+oneNode, `
> schedule a plan one from 0 at * * * * *
schedule ok
> schedule b plan one from 0 at * * * * *
schedule ok
> schedule c plan one from 0 at * * * * *
schedule ok
> arm 4
arm ok
> fire
fire ok 3
  a 0 ok 1
    0 run 1 submitted due 90
    0 run 1 ready node 0
  b 0 refused 56
  c 0 refused 170
> crash
crash ok 0
> ready 0
ready 1
> submit one
submit ok 2
  0 run 2 submitted due 90
  0 run 2 ready node 0
> arm 2
arm ok
> crew 2 seed 0
crew refused 56
> ready 0
ready 1
> crash
crash ok 0
> run 1
run live submitted 0
  a leased 1 token 1
> work 1
work refused 146
> complete 1
complete ok
  0 run 1 done node 0 attempt 1
  0 run 1 ended succeeded
`)
}

// A disk without room refuses what wants some.
func TestFull(t *testing.T) {
	talks(t, "disk 0\n"+oneNode, `
> submit one
submit refused 54
> tick 1
tick refused 54
> compact
compact refused 54
> schedule s plan one from 0 at * * * * *
schedule ok
> fire
fire ok 1
  s 0 refused 54
> poll 0 by 0
poll refused 145
> crew 1 seed 0
crew ok 0
> segments
segments 0
> crash 1 2 3
crash ok 0
> now
now 0
`)
	talks(t, "disk 160\n"+oneNode, `
> submit one
submit ok 1
  0 run 1 submitted due 90
  0 run 1 ready node 0
> crew 1 seed 0
crew refused 54
> poll 0 by 0
poll refused 54
> segments
segments 1
  1 77
> ready 0
ready 1
`)
	// A round's poll has room, what its worker tells has none: the poll stays.
	talks(t, "disk 161\n"+oneNode, `
> submit one
submit ok 1
  0 run 1 submitted due 90
  0 run 1 ready node 0
> crew 1 seed 0
crew refused 54
> segments
segments 1
  1 97
> run 1
run live submitted 0
  a leased 1 token 1
> work 1
work refused 146
> complete 1
complete refused 54
`)
}

// turned are lines by which a byte of a segment's only record, or image, is turned, and its sum so that it is right again.
func turned(seg, head, payload, at int, mask byte) string {
	text := make([]byte, 13+payload)
	nothing := sum.Sum(text)
	text[13+at] = mask
	turn := sum.Sum(text) ^ nothing
	script := fmt.Sprintf("spoil %d at %d mask %d\n", seg, head+17+at, mask)
	for i := range 4 {
		script += fmt.Sprintf("spoil %d at %d mask %d\n", seg, head+13+i, byte(turn>>(8*i)))
	}
	return script
}

// Where a disk can't be opened since it holds what is no operation, or no image, there is no store, till a reopen has one.
func TestSpoiled(t *testing.T) {
	said := func(lines string) string {
		return "> " + strings.ReplaceAll(strings.TrimSuffix(lines, "\n"), "\n", "\nspoil ok\n> ") + "\nspoil ok\n"
	}
	record := turned(1, 41, 2, 0, 9)
	talks(t, "disk 100000\n"+oneNode, `
> tick 5
tick ok
> schedule s plan one from 0 at * * * * *
schedule ok
`+said(record)+`
> now
now 5
> fire
fire ok 1
  s 0 ok 1
    5 run 1 submitted due 95
    5 run 1 ready node 0
> reopen
reopen refused 171
`+noStore+`
> crash
crash refused 171
> segments
segments 1
  1 99
> arm 0
arm ok
> crash
crash refused 171
`+said(record)+`
> now
now refused 170
> reopen
reopen ok 5
> now
now 5
> fire
fire ok 0
> run 1
run live submitted 5
  a ready 0
`)
	kept := imageBytes(t, 5)
	picture := turned(2, 24, kept, 0, 1)
	talks(t, "disk 100000\n"+oneNode, `
> tick 5
tick ok
> compact
compact ok
`+said(picture)+`
> reopen
reopen refused 150
`+noStore+said(picture)+`
> crash 7
crash ok 5
`)
	// A mask's lowest 8 bits count, and the same one again turns all back.
	talks(t, "disk 100000\n"+oneNode, `
> tick 5
tick ok
> spoil 1 at 58 mask 256
spoil ok
> reopen
reopen ok 5
> spoil 1 at 58 mask 4611686018427387904
spoil ok
> reopen
reopen ok 5
> spoil 1 at 58 mask 257
spoil ok
> spoil 1 at 58 mask 1
spoil ok
> reopen
reopen ok 5
> spoil 1 at 59 mask 511
spoil ok
> reopen
reopen ok 0
> spoil 1 at 59 mask 255
spoil ok
> spoil 1 at 60 mask 1
spoil refused 55
> spoil 2 at 0 mask 1
spoil refused 53
> reopen
reopen ok 5
`)
}

// A token that is told twice, since the record of the first poll was spoiled, means the task that it was told with last.
func TestToldTwice(t *testing.T) {
	plans := "plan p deadline 90\nnode a lane 0 budget 1 close 9\nend\nplan q deadline 90\nnode b lane 1 budget 1 close 9\nend\n"
	talks(t, "disk 100000\n"+plans, `
> submit p
submit ok 1
  0 run 1 submitted due 90
  0 run 1 ready node 0
> poll 0 by 0
poll ok token 1 run 1 node a attempt 1 until 9
  0 run 1 leased node 0 attempt 1 token 1 due 9
> segments
segments 1
  1 95
> spoil 1 at 94 mask 1
spoil ok
> reopen
reopen ok 0
> work 1
work refused 146
> submit q
submit ok 2
  0 run 2 submitted due 90
  0 run 2 ready node 0
> poll 1 by 0
poll ok token 1 run 2 node b attempt 1 until 9
  0 run 2 leased node 0 attempt 1 token 1 due 9
> work 1
work ok
  0 run 2 done node 0 attempt 1
  0 run 2 ended succeeded
> run 2
run succeeded submitted 0 ended 0
  b done 1 `+hex("b")+`
> run 1
run live submitted 0
  a ready 0
`)
}
