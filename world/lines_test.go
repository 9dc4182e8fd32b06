package world

import (
	"fmt"
	"strings"
	"testing"

	"escapement/api"
	"escapement/crew"
	"escapement/pace"
)

// The transcript, line by line: P21.2, and what the chapter's section says.

// talks holds a script that goes on behind a beginning, and its transcript, as a talk: what the script says stands behind "> ", and under it what is told; the numbers ahead are left out.
func talks(t *testing.T, beginning, talk string) {
	t.Helper()
	script, want := beginning, ""
	line := strings.Count(beginning, "\n")
	for x := range strings.SplitSeq(strings.TrimPrefix(talk, "\n"), "\n") {
		said, ok := strings.CutPrefix(x, "> ")
		switch {
		case ok:
			script += said + "\n"
			line++
		case strings.HasPrefix(x, "  "):
			want += x + "\n"
		case x != "":
			want += fmt.Sprintf("%d %s\n", line, x)
		}
	}
	plays(t, "P21.2", script, want)
}

// hex is what a crew makes of a task, as it is told.
func hex(name string, inputs ...string) string {
	var list [][]byte
	for _, x := range inputs {
		list = append(list, []byte(x))
	}
	return fmt.Sprintf("%x", crew.Work(name, list))
}

// A plan with a sign of life, backoff, and nodes that need others or stand after one; it is behind a disk that has room.
const web = `disk 100000
plan web deadline 100
node a lane 0 budget 2 close 10 beat 6 backoff 4 to 8
node b lane 1 budget 1 close 10
  needs a
node c lane 2 budget 1 close 20
  needs a b
node d lane 2 budget 1 close 30
  after b
end
`

// A run that succeeds, with each part that a poll's answer may have.
func TestSucceeds(t *testing.T) {
	talks(t, web, `
> submit web
submit ok 1
  0 run 1 submitted due 100
  0 run 1 ready node 0
> poll 1 by 0
poll refused 145
> poll 0 by 3
poll ok token 1 run 1 node a attempt 1 until 10 beat 6
  0 run 1 leased node 0 attempt 1 token 1 due 10
> tick 2
tick ok
> beat 1
beat ok
  2 run 1 beaten node 0 attempt 1 token 1 due 8
> run 1
run live submitted 0
  a leased 1 token 1
  b waiting 0
  c waiting 0
  d waiting 0
> due
due 8
> tick 6
tick ok
  8 run 1 failed node 0 attempt 1 beat
  8 run 1 backoff node 0 attempt 1 due 12
> beat 1
beat refused 146
> run 1
run live submitted 0
  a backoff 1
  b waiting 0
  c waiting 0
  d waiting 0
> due
due 12
> ready 0
ready 0
> tick 4
tick ok
  12 run 1 ready node 0
> poll 0 by 1099511627776
poll ok token 2 run 1 node a attempt 2 until 22 beat 18
  12 run 1 leased node 0 attempt 2 token 2 due 22
> complete 1
complete refused 146
> complete 2
complete ok
  12 run 1 done node 0 attempt 2
  12 run 1 ready node 1
> poll 1 by 0
poll ok token 3 run 1 node b attempt 1 until 22 in -
  12 run 1 leased node 1 attempt 1 token 3 due 22
> beat 3
beat ok
> complete 3 00ff7f
complete ok
  12 run 1 done node 1 attempt 1
  12 run 1 ready node 2
  12 run 1 ready node 3
> ready 2
ready 2
> poll 2 by 0
poll ok token 4 run 1 node c attempt 1 until 32 in - in 00ff7f
  12 run 1 leased node 2 attempt 1 token 4 due 32
> poll 2 by 0
poll ok token 5 run 1 node d attempt 1 until 42
  12 run 1 leased node 3 attempt 1 token 5 due 42
> work 4
work ok
  12 run 1 done node 2 attempt 1
> work 5
work ok
  12 run 1 done node 3 attempt 1
  12 run 1 ended succeeded
> run 1
run succeeded submitted 0 ended 12
  a done 2 -
  b done 1 00ff7f
  c done 1 `+hex("c", "", "\x00\xff\x7f")+`
  d done 1 `+hex("d")+`
> cancel 1
cancel refused 148
> due
due none
> forget 1
forget ok
  12 run 1 forgotten
> run 1
run refused 147
> forget 1
forget refused 147
> cancel 1
cancel refused 147
> now
now 12
`)
}

// Runs that fail, are cancelled and expire: why a node is dead, and who is skipped.
func TestEnds(t *testing.T) {
	talks(t, web, `
> submit web
submit ok 1
  0 run 1 submitted due 100
  0 run 1 ready node 0
> poll 0 by 0
poll ok token 1 run 1 node a attempt 1 until 10 beat 6
  0 run 1 leased node 0 attempt 1 token 1 due 10
> fail 1
fail ok
  0 run 1 failed node 0 attempt 1 told
  0 run 1 backoff node 0 attempt 1 due 4
> fail 1
fail refused 146
> tick 4
tick ok
  4 run 1 ready node 0
> run 1
run live submitted 0
  a ready 1
  b waiting 0
  c waiting 0
  d waiting 0
> poll 0 by 0
poll ok token 2 run 1 node a attempt 2 until 14 beat 10
  4 run 1 leased node 0 attempt 2 token 2 due 14
> fail 2
fail ok
  4 run 1 failed node 0 attempt 2 told
  4 run 1 dead node 0 attempt 2 budget
  4 run 1 skipped node 1
  4 run 1 skipped node 2
  4 run 1 ready node 3
> forget 1
forget refused 148
> run 1
run live submitted 0
  a dead 2
  b skipped 0
  c skipped 0
  d ready 0
> poll 2 by 0
poll ok token 3 run 1 node d attempt 1 until 34
  4 run 1 leased node 3 attempt 1 token 3 due 34
> tick 30
tick ok
  34 run 1 failed node 3 attempt 1 closed
  34 run 1 dead node 3 attempt 1 budget
  34 run 1 ended failed
> run 1
run failed submitted 0 ended 34
  a dead 2
  b skipped 0
  c skipped 0
  d dead 1
> submit web
submit ok 2
  34 run 2 submitted due 134
  34 run 2 ready node 0
> cancel 2
cancel ok
  34 run 2 dead node 0 attempt 0 cancelled
  34 run 2 skipped node 1
  34 run 2 skipped node 2
  34 run 2 skipped node 3
  34 run 2 ended cancelled
> run 2
run cancelled submitted 34 ended 34
  a dead 0
  b skipped 0
  c skipped 0
  d skipped 0
> submit web
submit ok 3
  34 run 3 submitted due 134
  34 run 3 ready node 0
> poll 0 by 0
poll ok token 4 run 3 node a attempt 1 until 44 beat 40
  34 run 3 leased node 0 attempt 1 token 4 due 44
> complete 4
complete ok
  34 run 3 done node 0 attempt 1
  34 run 3 ready node 1
> tick 1000
tick ok
  134 run 3 dead node 1 attempt 0 deadline
  134 run 3 skipped node 2
  134 run 3 skipped node 3
  134 run 3 ended expired
> run 3
run expired submitted 34 ended 134
  a done 1 -
  b dead 0
  c skipped 0
  d skipped 0
> now
now 1034
> forget 2
forget ok
  1034 run 2 forgotten
> due
due none
`)
}

// A run that has ended at 0 tells so, and one that was submitted later, too.
func TestEndedAtNought(t *testing.T) {
	talks(t, web, `
> submit web
submit ok 1
  0 run 1 submitted due 100
  0 run 1 ready node 0
> cancel 1
cancel ok
  0 run 1 dead node 0 attempt 0 cancelled
  0 run 1 skipped node 1
  0 run 1 skipped node 2
  0 run 1 skipped node 3
  0 run 1 ended cancelled
> run 1
run cancelled submitted 0 ended 0
  a dead 0
  b skipped 0
  c skipped 0
  d skipped 0
`)
}

// Submissions, with keys and without.
func TestSubmit(t *testing.T) {
	other := "plan other deadline 7\nnode x lane 15 budget 1 close 1\nend\n"
	talks(t, web+other, `
> submit other key k
submit ok 1
  0 run 1 submitted due 7
  0 run 1 ready node 0
> submit other key k
submit ok 1 again
> submit other key K
submit ok 2
  0 run 2 submitted due 7
  0 run 2 ready node 0
> submit other
submit ok 3
  0 run 3 submitted due 7
  0 run 3 ready node 0
> submit other
submit ok 4
  0 run 4 submitted due 7
  0 run 4 ready node 0
> submit web key k
submit refused 141
> ready 15
ready 4
> cancel 1
cancel ok
  0 run 1 dead node 0 attempt 0 cancelled
  0 run 1 ended cancelled
> submit other key k
submit ok 1 again
> forget 1
forget ok
  0 run 1 forgotten
> submit web key k
submit ok 5
  0 run 5 submitted due 100
  0 run 5 ready node 0
> submit web key 12345678901234567890123456789012345678901
submit refused 121
> tick 4611686018427387804
tick ok
  7 run 2 dead node 0 attempt 0 deadline
  7 run 2 ended expired
  7 run 3 dead node 0 attempt 0 deadline
  7 run 3 ended expired
  7 run 4 dead node 0 attempt 0 deadline
  7 run 4 ended expired
  100 run 5 dead node 0 attempt 0 deadline
  100 run 5 skipped node 1
  100 run 5 skipped node 2
  100 run 5 skipped node 3
  100 run 5 ended expired
> submit web
submit ok 6
  4611686018427387804 run 6 submitted due 4611686018427387904
  4611686018427387804 run 6 ready node 0
> tick 1
tick ok
> submit web
submit refused 143
> submit other
submit ok 7
  4611686018427387805 run 7 submitted due 4611686018427387812
  4611686018427387805 run 7 ready node 0
`)
	script, want := "disk 1000000\n"+oneNode+strings.Repeat("submit one\n", 257), ""
	for i := 1; i <= 256; i++ {
		want += fmt.Sprintf("%d submit ok %d\n  0 run %d submitted due 90\n  0 run %d ready node 0\n", i+4, i, i, i)
	}
	plays(t, "P21.2", script, want+"261 submit refused 142\n")
}

// Operations whose numbers may not be are refused by the layers below, not as lines.
func TestOutOfBounds(t *testing.T) {
	talks(t, web, `
> poll 15 by 0
poll refused 145
> poll 16 by 0
poll refused 121
> poll 0 by 1099511627777
poll refused 121
> beat 0
beat refused 121
> beat 1099511627776
beat refused 146
> beat 1099511627777
beat refused 121
> fail 0
fail refused 121
> fail 1099511627777
fail refused 121
> complete 0
complete refused 121
> complete 0 00
complete refused 121
> complete 4611686018427387904 00
complete refused 121
> work 0
work refused 146
> work 4611686018427387904
work refused 146
> cancel 0
cancel refused 121
> cancel 1
cancel refused 147
> cancel 1099511627777
cancel refused 121
> forget 0
forget refused 121
> forget 1099511627777
forget refused 121
> draw 0
draw ok
> draw 4611686018427387904
draw ok
> tick 0
tick ok
> tick 4611686018427387904
tick ok
> tick 1
tick ok
> now
now 4611686018427387904
> ready 0
ready 0
> ready 16
ready 0
> ready 4611686018427387904
ready 0
> run 0
run refused 147
> run 4611686018427387904
run refused 147
> crew 0 seed 0
crew refused 190
> crew 17 seed 0
crew refused 190
> crew 4611686018427387904 seed 4611686018427387904
crew refused 190
> crew 16 seed 4611686018427387904
crew ok 0
> arm 4611686018427387904
arm ok
> spoil 0 at 0 mask 0
spoil refused 53
> spoil 4611686018427387904 at 0 mask 0
spoil refused 53
> spoil 1 at 4611686018427387904 mask 0
spoil refused 55
`)
}

// The luck that was drawn turns what chance adds: two scripts that draw unlike numbers back off unlike, as pace says.
func TestDraw(t *testing.T) {
	plan := "disk 100000\nplan p deadline 9000\nnode a lane 0 budget 2 close 10 backoff 4 to 8 jitter 1000\nend\n"
	node := api.Node{Name: "a", Budget: 2, Close: 10, Base: 4, Cap: 8, Jitter: 1000}
	for _, n := range []int{0, 1, 7, 4611686018427387904} {
		wait, code := pace.Wait(node, pace.Mix(0, uint64(n)), 1, 0, 1)
		if code != api.OK {
			t.Fatal(code)
		}
		talks(t, plan, fmt.Sprintf(`
> draw %d
draw ok
> submit p
submit ok 1
  0 run 1 submitted due 9000
  0 run 1 ready node 0
> poll 0 by 0
poll ok token 1 run 1 node a attempt 1 until 10
  0 run 1 leased node 0 attempt 1 token 1 due 10
> fail 1
fail ok
  0 run 1 failed node 0 attempt 1 told
  0 run 1 backoff node 0 attempt 1 due %d
`, n, wait))
	}
}

// Work of a token that was polled, that was not, that a crew polled, and whose lease has ended.
func TestWork(t *testing.T) {
	// A seed with which the one worker of a round tells nothing.
	silent := 1
	for pace.Mix(uint64(silent), 0)%8 != 2 {
		silent++
	}
	talks(t, web, fmt.Sprintf(`
> work 1
work refused 146
> submit web
submit ok 1
  0 run 1 submitted due 100
  0 run 1 ready node 0
> work 1
work refused 146
> crew 1 seed %d
crew ok 1
  ok
    0 run 1 leased node 0 attempt 1 token 1 due 10
> work 1
work refused 146
> run 1
run live submitted 0
  a leased 1 token 1
  b waiting 0
  c waiting 0
  d waiting 0
> fail 1
fail ok
  0 run 1 failed node 0 attempt 1 told
  0 run 1 backoff node 0 attempt 1 due 4
> tick 4
tick ok
  4 run 1 ready node 0
> poll 0 by 0
poll ok token 2 run 1 node a attempt 2 until 14 beat 10
  4 run 1 leased node 0 attempt 2 token 2 due 14
> poll 0 by 0
poll refused 145
> work 3
work refused 146
> reopen
reopen ok 4
> work 1
work refused 146
> work 2
work ok
  4 run 1 done node 0 attempt 2
  4 run 1 ready node 1
> work 2
work refused 146
> poll 1 by 0
poll ok token 3 run 1 node b attempt 1 until 14 in %s
  4 run 1 leased node 1 attempt 1 token 3 due 14
> crash
crash ok 4
> work 3
work ok
  4 run 1 done node 1 attempt 1
  4 run 1 ready node 2
  4 run 1 ready node 3
> run 1
run live submitted 0
  a done 2 %s
  b done 1 %s
  c ready 0
  d ready 0
`, silent, hex("a"), hex("a"), hex("b", string(crew.Work("a", nil)))))
}

// Rounds of a crew: none has something, each is done, and what workers tell with seeds under which they fail, beat and are silent.
func TestCrew(t *testing.T) {
	talks(t, web, `
> crew 16 seed 0
crew ok 0
> submit web
submit ok 1
  0 run 1 submitted due 100
  0 run 1 ready node 0
> submit web
submit ok 2
  0 run 2 submitted due 100
  0 run 2 ready node 0
> crew 3 seed 0
crew ok 4
  ok
    0 run 1 leased node 0 attempt 1 token 1 due 10
  ok
    0 run 2 leased node 0 attempt 1 token 2 due 10
  ok
    0 run 1 done node 0 attempt 1
    0 run 1 ready node 1
  ok
    0 run 2 done node 0 attempt 1
    0 run 2 ready node 1
> crew 1 seed 0
crew ok 2
  ok
    0 run 1 leased node 1 attempt 1 token 3 due 10
  ok
    0 run 1 done node 1 attempt 1
    0 run 1 ready node 2
    0 run 1 ready node 3
> crew 17 seed 0
crew refused 190
`)
	// The first worker fails, then shows a sign of life ahead of completing.
	failing, beating := 1, 1
	for pace.Mix(uint64(failing), 0)%8 != 0 {
		failing++
	}
	for pace.Mix(uint64(beating), 0)%8 != 1 {
		beating++
	}
	talks(t, web, fmt.Sprintf(`
> submit web
submit ok 1
  0 run 1 submitted due 100
  0 run 1 ready node 0
> crew 1 seed %d
crew ok 2
  ok
    0 run 1 leased node 0 attempt 1 token 1 due 10
  ok
    0 run 1 failed node 0 attempt 1 told
    0 run 1 backoff node 0 attempt 1 due 4
> tick 5
tick ok
  4 run 1 ready node 0
> crew 1 seed %d
crew ok 3
  ok
    5 run 1 leased node 0 attempt 2 token 2 due 15
  ok
    5 run 1 beaten node 0 attempt 2 token 2 due 11
  ok
    5 run 1 done node 0 attempt 2
    5 run 1 ready node 1
> crew 1 seed %d
crew ok 3
  ok
    5 run 1 leased node 1 attempt 1 token 3 due 15
  ok
  ok
    5 run 1 done node 1 attempt 1
    5 run 1 ready node 2
    5 run 1 ready node 3
`, failing, beating, beating))
	// No script lets a worker be refused what it tells, since no tick passes in a round; it would be told so.
	notes := []api.Note{{Kind: api.NoteReady, Time: 3, Run: 2, Node: 1}}
	if got := strings.Join(answerLines(api.Answer{Code: api.ErrEngineToken}), ""); got != "  refused 146\n" {
		t.Errorf("P21.2: an answer that is refused is told as %q", got)
	}
	if got := strings.Join(answerLines(api.Answer{Run: 7, Notes: notes}), ""); got != "  ok\n    3 run 2 ready node 1\n" {
		t.Errorf("P21.2: an answer is told as %q", got)
	}
}

// Schedules that are put in, refused, taken out and fired, with each part that may be told of one.
func TestFire(t *testing.T) {
	plans := "plan p deadline 100\nnode a lane 0 budget 1 close 5\nend\nplan q deadline 200\nnode a lane 0 budget 1 close 5\nend\n"
	talks(t, "disk 100000\n"+plans, `
> fire
fire ok 0
> schedule noon plan p from 0 at * * * * *
schedule ok
> schedule noon plan q from 0 at * * * * *
schedule refused 180
> schedule Noon plan p from 0 at * * * * *
schedule refused 180
> schedule 123456789012345678901 plan p from 0 at * * * * *
schedule refused 180
> schedule x plan p from 0 at * * * * 7
schedule refused 41
> schedule x plan p from 0 at * * * * mon
schedule refused 41
> schedule later plan q from 61 at */2 0-23 * 1-12 *
schedule ok
> schedule a.b-c_9 plan q from 4611686018427387904 at 0 0 1 1 *
schedule ok
> fire
fire ok 1
  noon 0 ok 1
    0 run 1 submitted due 100
    0 run 1 ready node 0
> fire
fire ok 0
> tick 130
tick ok
  100 run 1 dead node 0 attempt 0 deadline
  100 run 1 ended expired
> fire
fire ok 2
  later 120 ok 2
    130 run 2 submitted due 330
    130 run 2 ready node 0
  noon 120 ok 3
    130 run 3 submitted due 230
    130 run 3 ready node 0
> drop noon
drop ok
> drop noon
drop refused 182
> drop Noon
drop refused 182
> schedule noon plan p from 0 at * * * * *
schedule ok
> fire
fire ok 1
  noon 120 ok 3 again
> drop noon
drop ok
> schedule noon plan q from 0 at * * * * *
schedule ok
> fire
fire ok 1
  noon 120 refused 141
> fire
fire ok 1
  noon 120 refused 141
> submit p key noon@180
submit ok 4
  130 run 4 submitted due 230
  130 run 4 ready node 0
> submit q key later@180
submit ok 5
  130 run 5 submitted due 330
  130 run 5 ready node 0
> tick 60
tick ok
> fire
fire ok 1
  noon 180 refused 141
> tick 50
tick ok
  230 run 3 dead node 0 attempt 0 deadline
  230 run 3 ended expired
  230 run 4 dead node 0 attempt 0 deadline
  230 run 4 ended expired
> fire
fire ok 2
  later 240 ok 6
    240 run 6 submitted due 440
    240 run 6 ready node 0
  noon 240 ok 7
    240 run 7 submitted due 440
    240 run 7 ready node 0
`)
	// A cadence has 64 schedules at most, and an expression 1024 bytes.
	script, want := "disk 100000\n"+plans, ""
	for i := range 65 {
		script += fmt.Sprintf("schedule s%d plan p from 9 at 0 0 30 2 *\n", i)
		want += fmt.Sprintf("%d schedule %s\n", i+8, []string{"ok", "refused 181"}[i/64])
	}
	long := strings.Repeat("1,", 507) + "1" // 1015 bytes
	plays(t, "P21.2", script+"drop s3\nschedule x plan p from 0 at "+long+"1 * * * *\ndrop x\nschedule x plan p from 0 at "+long+" 10 * * *\ndrop s4\nschedule y plan p from 0 at "+long+" 10  *\t* *#*\nschedule z plan p from 0 at "+long+" 10,1 * * *\n",
		want+"73 drop ok\n74 schedule ok\n75 drop ok\n76 schedule ok\n77 drop ok\n78 schedule ok\n79 schedule refused 40\n")
}

// What a cadence has is gone behind crash and reopen, whether the disk can be opened or not; what was fired is known by its key.
func TestCadenceAnew(t *testing.T) {
	begin := "disk 100000\n" + oneNode + "schedule s plan one from 0 at * * * * *\nschedule t plan one from 99 at * * * * *\nfire\n"
	told := "5 schedule ok\n6 schedule ok\n7 fire ok 1\n  s 0 ok 1\n    0 run 1 submitted due 90\n    0 run 1 ready node 0\n"
	for _, anew := range []string{"crash", "crash 5 5", "reopen"} {
		plays(t, "P21.2", begin+anew+"\ndrop s\ndrop t\nfire\nschedule s plan one from 0 at * * * * *\nfire\n",
			told+"8 "+strings.Fields(anew)[0]+" ok 0\n9 drop refused 182\n10 drop refused 182\n11 fire ok 0\n12 schedule ok\n13 fire ok 1\n  s 0 ok 1 again\n")
	}
	plays(t, "P21.2", begin+"arm 0\nreopen\ndrop s\nschedule s plan one from 0 at * * * * *\nschedule s plan one from 0 at * * * * *\ncrash\ndrop s\n",
		told+"8 arm ok\n9 reopen refused 56\n10 drop refused 182\n11 schedule ok\n12 schedule refused 180\n13 crash ok 0\n14 drop refused 182\n")
}
