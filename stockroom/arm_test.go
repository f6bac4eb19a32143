package stockroom_test

import (
	"fmt"
	"slices"
	"strconv"
	"strings"
	"testing"

	"stockroom/api"
	"stockroom/stockroom"
)

// ends are numbers at which nothing may go wrong, right or not.
var ends = []int{-1 << 63, -1 << 32, -1, 0, 1, 7, 8, 50, 51, 1 << 32, 1<<63 - 1}

// checkDown asks a shop without power for everything, with right and with wrong arguments: nothing is answered, and nothing changes.
func checkDown(t *testing.T, what string, s *stockroom.Shop) {
	t.Helper()
	before := s.Left(7, "junk")
	for _, l := range [][]api.Request{nil, {}, {{}}, receives(1, 1), receives(1, 40), {receive(0, 8, -1), tick(77, 5)}} {
		if replies, e := s.Serve(l); replies != nil || e != api.ErrDown {
			t.Errorf("%s: without power Serve(%v) = %v, %d", what, l, replies, e)
		}
	}
	for _, n := range ends {
		if c, e := s.Cell(n); c != (api.Cell{}) || e != api.ErrDown {
			t.Errorf("%s: without power Cell(%d) = %v, %d", what, n, c, e)
		}
		if h, e := s.Hold(n); h != (api.Hold{}) || e != api.ErrDown {
			t.Errorf("%s: without power Hold(%d) = %v, %d", what, n, h, e)
		}
	}
	if n, e := s.Clock(); n != 0 || e != api.ErrDown {
		t.Errorf("%s: without power Clock = %d, %d", what, n, e)
	}
	if n, e := s.Count(); n != 0 || e != api.ErrDown {
		t.Errorf("%s: without power Count = %d, %d", what, n, e)
	}
	if e := s.Checkpoint(); e != api.ErrDown {
		t.Errorf("%s: without power Checkpoint = %d", what, e)
	}
	if got := s.Left(7, "junk"); !slices.Equal(got, before) {
		t.Errorf("%s: what was asked without power changed what is left to%s\nfrom%s", what, filesOf(got), filesOf(before))
	}
}

// checkServeDown serves requests, in which the power must go.
func checkServeDown(t *testing.T, what string, s *stockroom.Shop, want string, l ...api.Request) {
	t.Helper()
	replies, e := s.Serve(l)
	if got := repliesOf(replies); got != want || e != api.ErrDown {
		t.Errorf("%s: Serve of %d requests, from %v on\nanswers %s, %d\nwant    %s, %d", what, len(l), l[:min(len(l), 20)], got, e, want, api.ErrDown)
	}
	checkDown(t, what, s)
}

// checkUnderWay holds what is left of a log against what was synced and what is under way, with no other file but those behind it.
func checkUnderWay(t *testing.T, what string, s *stockroom.Shop, synced, way string, others ...api.File) {
	t.Helper()
	long := strings.Repeat("j", 50)
	n := len(way)
	for _, keep := range []int{-1 << 63, -1, 0, 1, n / 2, n - 1, n, n + 1, 1 << 32, 1<<63 - 1} {
		kept := way[:min(max(keep, 0), n)]
		for junk, want := range map[string]string{"": "", "x": "x", long[1:]: long[1:], long: long, long + "x": long, long + long: long} {
			files := append([]api.File{logOf(synced, kept, want)}, others...)
			if got := s.Left(keep, junk); !slices.Equal(got, files) {
				t.Errorf("%s: Left(%d, %q) =%s\nwant%s", what, keep, junk, filesOf(got), filesOf(files))
				return
			}
		}
	}
}

// P8, P11, P12: the write and the sync of the first, of each middle and of the last group, and behind the last.
func TestPowerGoesAtEachStepOfServe(t *testing.T) {
	for _, group := range []int{1, 2, 3, 7, 16} {
		for _, n := range []int{1, 2, 7} {
			l := receives(1, n)
			records := recordsOf(1, l...)
			steps := 2 * ((n + group - 1) / group)
			for arm := 1; arm <= steps; arm++ {
				what := fmt.Sprint(n, " by ", group, ", step ", arm)
				s := mustOpen(t, configOf(20, group, 5000))
				s.Arm(arm)
				ahead := (arm - 1) / 2 * group
				checkServeDown(t, what, s, words(counts(1, ahead)), l...)
				way := records[ahead:min(ahead+group, n)]
				checkUnderWay(t, what, s, strings.Join(records[:ahead], ""), strings.Join(way, ""))
			}
			for _, arm := range []int{steps + 1, steps + 2, 1 << 32, 1<<63 - 1, 0, -1, -2, -1 << 63} {
				what := fmt.Sprint(n, " by ", group, ", Arm(", arm, ")")
				s := mustOpen(t, configOf(20, group, 5000))
				s.Arm(arm)
				checkServe(t, what, s, words(counts(1, n)), l...)
				checkTold(t, what, s, stocked(n))
				checkLeft(t, what, s, logOf(records...))
			}
		}
	}
}

// P8, P12: ahead of a log and a snap of old, which stay.
func TestPowerGoesWithFilesOfOld(t *testing.T) {
	snap := snapOf(someBook().snapshot())
	old, next := recordsOf(10, receive(12, 0, 1), tick(13, 5)), recordsOf(12, receive(14, 0, 1), commit(15, 7), receive(16, 0, 1))
	l := []api.Request{receive(14, 0, 1), commit(15, 7), receive(16, 0, 1)}
	for arm, want := range map[int]string{1: "", 2: "", 3: "d52 d30", 4: "d52 d30"} {
		s := mustOpen(t, configOf(20, 2, 5000), snap, logOf(old...), api.File{Name: "tmp", Data: "half"})
		s.Arm(arm)
		checkServeDown(t, "files of old", s, want, l...)
		if arm <= 2 {
			checkUnderWay(t, "the first group", s, old[0]+old[1], next[0]+next[1], snap)
		} else {
			checkUnderWay(t, "the second group", s, old[0]+old[1]+next[0]+next[1], next[2], snap)
		}
	}
}

// P7, P11: what is wrong, remembered or refused, or asked, takes no disk step.
func TestPowerStaysWhereNoStepIsTaken(t *testing.T) {
	s := mustOpen(t, configOf(20, 2, 100))
	checkServe(t, "two", s, "d1 d2", receives(1, 2)...)
	s.Arm(1)
	idle := func() {
		t.Helper()
		checkServe(t, "nothing", s, "")
		checkServe(t, "wrong ones", s, "w0 w0 w0 w0 w0", api.Request{}, receive(3, 8, 1), tick(3, -1), commit(3, 0), receive(0, 0, 1))
		checkServe(t, "remembered ones", s, "d1 d2 d2 d1", receive(1, 0, 1), receive(2, 0, 1), receive(2, 0, 1), receive(1, 0, 1))
		checkServe(t, "others of these numbers", s, "c0 c0 c0", receive(1, 0, 2), tick(2, 1), commit(1, 9))
		checkServe(t, "groups without room", s, "f0 f0 f0 f0", receives(3, 4)...)
		checkServe(t, "of all kinds", s, "w0 d1 f0 f0 c0 d2", receive(3, 0, 0), receive(1, 0, 1), receive(3, 0, 1), receive(4, 0, 1), receive(1, 0, 2), receive(2, 0, 1))
		checkTold(t, "asked", s, stocked(2))
		for _, n := range ends {
			s.Cell(n)
			s.Hold(n)
			s.Left(n, "junk")
		}
		checkLeft(t, "asked", s, logOf(recordsOf(1, receives(1, 2)...)...))
	}
	idle()
	other := mustOpen(t, widest, s.Left(0, "")...)
	checkServe(t, "another shop", other, "d3", receive(3, 0, 1))
	idle()
	checkServeDown(t, "one that is done", s, "", receive(3, 0, 1))
	checkUnderWay(t, "one that is done", s, strings.Join(recordsOf(1, receives(1, 2)...), ""), recordOf(3, receive(3, 0, 1)))
}

// P7, P8, P11: in one call, between groups that take their two steps, those that take none are answered.
func TestPowerGoesAmongGroupsOfAllKinds(t *testing.T) {
	l := []api.Request{
		{}, receive(1, 8, 1), // wrong
		receive(1, 0, 1), {}, // done: the first two steps
		receive(1, 0, 1), receive(1, 0, 2), // remembered
		receive(2, 0, 1), receive(3, 0, 1), // done: two more
		receive(4, 0, 1), receive(5, 0, 1), // refused
		receive(3, 0, 1), {}, // remembered
		receive(6, 0, 1), {}, // refused
	}
	all := strings.Fields("w0 w0 d1 w0 d1 c0 d2 d3 f0 f0 d3 w0 f0 w0")
	records := recordsOf(1, receives(1, 3)...)
	for arm, n := range map[int]int{1: 2, 2: 2, 3: 6, 4: 6} {
		s := mustOpen(t, configOf(20, 2, 100))
		s.Arm(arm)
		checkServeDown(t, fmt.Sprint("step ", arm), s, words(all[:n]), l...)
		if n == 2 {
			checkUnderWay(t, fmt.Sprint("step ", arm), s, "", records[0])
		} else {
			checkUnderWay(t, fmt.Sprint("step ", arm), s, records[0], records[1]+records[2])
		}
	}
	s := mustOpen(t, configOf(20, 2, 100))
	s.Arm(5)
	checkServe(t, "four steps", s, words(all), l...)
	checkServe(t, "no step", s, words(all[4:6], refusals(2)), l[4], l[5], l[8], l[9])
	checkTold(t, "four steps", s, stocked(3))
	if e := s.Checkpoint(); e != api.ErrDown {
		t.Errorf("the fifth step: Checkpoint = %d", e)
	}
	checkDown(t, "the fifth step", s)
}

// P7, P8: a rejected request is done, and so takes two steps as any other.
func TestPowerGoesAtWhatIsRejected(t *testing.T) {
	for arm := 1; arm <= 2; arm++ {
		s := mustOpen(t, widest)
		s.Arm(arm)
		checkServeDown(t, "rejected", s, "", commit(1, 9), api.Request{})
		checkUnderWay(t, "rejected", s, "", recordOf(1, commit(1, 9)))
		again := mustOpen(t, widest, s.Left(32, "")...)
		checkServe(t, "opened again", again, "r0 c0", commit(1, 9), commit(1, 8))
		checkTold(t, "opened again", again, "1 done, clock 0")
	}
}

// runScript has a shop do what the words say: a5 is Arm(5), s a Serve that takes two steps, c a Checkpoint, which takes four, q all that takes none; with S and C the power must go.
func runScript(t *testing.T, script string) {
	t.Helper()
	s, id := mustOpen(t, widest), 0
	for i, word := range strings.Fields(script) {
		what := fmt.Sprintf("%q, word %d", script, i)
		switch word[0] {
		case 'a':
			n, err := strconv.Atoi(word[1:])
			if err != nil {
				t.Fatal(err)
			}
			s.Arm(n)
		case 's':
			id++
			checkServe(t, what, s, fmt.Sprint("d", id), receive(id, 0, 1))
		case 'S':
			checkServeDown(t, what, s, "", receive(id+1, 0, 1))
		case 'c':
			checkCheckpoint(t, what, s)
		case 'C':
			if e := s.Checkpoint(); e != api.ErrDown {
				t.Errorf("%s: Checkpoint = %d", what, e)
			}
			checkDown(t, what, s)
		case 'q':
			checkServe(t, what, s, "w0", api.Request{})
			checkTold(t, what, s, stocked(id))
			s.Left(3, "junk")
		}
	}
}

// P11.
func TestArmBehindArm(t *testing.T) {
	for _, script := range []string{
		"s c s c", "a0 s c s", "a-1 s c s", "a-9223372036854775808 s c s", "a9223372036854775807 s c s",
		"a1 S", "a2 S", "a3 s S", "a4 s S", "a5 s s S", "a1 C", "a2 C", "a3 C", "a4 C", "a5 c S", "a5 c C", "a6 c S", "a7 c s C", "a7 s c C",
		// more
		"a1 a3 s S", "a1 a2 S", "a2 a5 s s S", "a3 s a3 s S", "a3 s a4 s S", "a3 s a5 s s S", "a5 c a5 c S", "a1 a9223372036854775807 s c s c",
		// less
		"a3 a1 S", "a5 a2 S", "a9 s a1 S", "a9 s a2 S", "a9 s a3 s S", "a9 c a1 C", "a9 c a4 C", "a9223372036854775807 s a1 S", "a9223372036854775807 a3 s S",
		// none
		"a1 a0 s c s", "a2 a-1 s c s", "a3 s a0 s c", "a3 s a-9223372036854775808 s c", "a5 c a0 s c",
		// behind none
		"a0 a1 S", "a1 a0 a1 S", "a1 a0 a2 S", "a-5 a3 s S", "s s a1 S", "s c s a4 C", "a3 s a0 s a3 s S",
		// the same
		"a1 a1 S", "a2 a2 S", "a3 s a3 s a3 s S", "a5 s a5 s a5 s s S",
		// with what takes no step between
		"a1 q q S", "a3 q s q q S", "q a2 q S", "a4 q C", "a5 q c q q S",
		// when the power is gone
		"a1 S a0 S a1 S a2 C a9223372036854775807 C a-1 S", "a3 C a0 C a5 S", "a2 S a-9223372036854775808 C",
	} {
		runScript(t, script)
	}
}

// P11, P12: without power Arm changes nothing, not what is left either.
func TestArmWithoutPower(t *testing.T) {
	records := recordsOf(1, receives(1, 3)...)
	for arm := 1; arm <= 4; arm++ {
		s := mustOpen(t, configOf(20, 2, 5000))
		s.Arm(arm)
		s.Serve(receives(1, 3))
		for _, n := range append(ends, 2, 3, 4, 5, 6) {
			what := fmt.Sprint("step ", arm, ", Arm(", n, ")")
			s.Arm(n)
			checkDown(t, what, s)
			if arm <= 2 {
				checkUnderWay(t, what, s, "", records[0]+records[1])
			} else {
				checkUnderWay(t, what, s, records[0]+records[1], records[2])
			}
		}
	}
}

// P2, P11: Arm is for this shop alone, and a shop that is opened by what it leaves is not armed.
func TestArmOfOneShopAlone(t *testing.T) {
	a, b := mustOpen(t, widest), mustOpen(t, widest)
	a.Arm(1)
	checkServe(t, "a shop beside", b, "d1", receive(1, 0, 1))
	checkCheckpoint(t, "a shop beside", b)
	c := mustOpen(t, widest, a.Left(0, "")...)
	checkServe(t, "opened by what an armed one leaves", c, "d1", receive(1, 0, 1))
	b.Arm(3)
	checkServeDown(t, "the armed one", a, "", receive(1, 0, 1))
	checkTold(t, "a shop beside", b, stocked(1))
	checkServe(t, "a shop beside", b, "d2", receive(2, 0, 1))
	checkServe(t, "a shop beside", c, "d2", receive(2, 0, 1))
	d := mustOpen(t, widest, a.Left(32, "")...)
	checkServe(t, "opened behind the power went", d, "d1 d2", receives(1, 2)...)
	checkCheckpoint(t, "opened behind the power went", d)
	checkDown(t, "the armed one", a)
	checkServeDown(t, "the other armed one", b, "", receive(3, 0, 1))
	checkTold(t, "a shop beside", c, stocked(2))
}

// The last two of the document's examples.
func TestArmTheDocumentsExamples(t *testing.T) {
	shop := func() *stockroom.Shop {
		s := mustOpen(t, configOf(2, 2, 100))
		checkServe(t, "three", s, "d5 d2 r0", receive(1, 0, 5), reserve(2, 0, 7, 3, 10), reserve(3, 0, 8, 3, 10))
		return s
	}
	first := shop()
	log := first.Left(0, "")[0].Data
	checkCheckpoint(t, "a full log", first)
	elder := first.Left(0, "")[1]
	for arm := 1; arm <= 2; arm++ {
		s := shop()
		checkCheckpoint(t, "a full log", s)
		checkServe(t, "ID 1", s, "d7", receive(1, 0, 5))
		s.Arm(arm)
		checkServeDown(t, "ID 4", s, "", commit(4, 7))
		one, two := recordOf(4, receive(1, 0, 5)), recordOf(5, commit(4, 7))
		for _, x := range []struct {
			keep            int
			junk, log, told string
		}{
			{0, "", one, "4 done, clock 0, cell 0: 10 = 3 held + 0 gone + 7 free, hold 7: 3 of 0 until 10"},
			{1000, "", one + two, "5 done, clock 0, cell 0: 10 = 0 held + 3 gone + 7 free"},
			{31, "x", one + two[:31] + "x", "4 done, clock 0, cell 0: 10 = 3 held + 0 gone + 7 free, hold 7: 3 of 0 until 10"},
		} {
			left := s.Left(x.keep, x.junk)
			if want := []api.File{logOf(x.log), elder}; !slices.Equal(left, want) {
				t.Errorf("Arm(%d): Left(%d, %q) =%s\nwant%s", arm, x.keep, x.junk, filesOf(left), filesOf(want))
			}
			checkTold(t, fmt.Sprint("opened with Left(", x.keep, ")"), mustOpen(t, configOf(2, 2, 100), left...), x.told)
		}
	}
	for _, old := range [][]api.File{nil, {elder}} {
		for arm := 3; arm <= 4; arm++ {
			s := shop()
			if old != nil {
				log = recordOf(4, commit(4, 7))
				checkCheckpoint(t, "an elder snap", s)
				checkServe(t, "ID 4", s, "d3", commit(4, 7))
			}
			whole := mustOpen(t, configOf(2, 2, 100), s.Left(0, "")...)
			want := tell(t, s)
			checkCheckpoint(t, "whole", whole)
			snap := whole.Left(0, "")[1]
			s.Arm(arm)
			if e := s.Checkpoint(); e != api.ErrDown {
				t.Errorf("Arm(%d): Checkpoint = %d", arm, e)
			}
			if arm == 3 {
				checkLeft(t, "Arm(3)", s, slices.Concat([]api.File{logOf(log)}, old, []api.File{{Name: "tmp", Data: snap.Data}})...)
			} else {
				checkLeft(t, "Arm(4)", s, logOf(log), snap)
			}
			if got := tell(t, mustOpen(t, configOf(2, 2, 100), s.Left(0, "")...)); got != want {
				t.Errorf("Arm(%d): opened again the shop tells %v, want %v", arm, got, want)
			}
		}
	}
}

func ExampleShop_Arm() {
	c := api.Config{Window: 2, Group: 2, Room: 100}
	s, _ := stockroom.Open(nil, c)
	s.Arm(2) // the first Serve writes, and the power goes as it syncs
	fmt.Println(s.Serve([]api.Request{{ID: 1, Kind: api.Receive, Cell: 0, Count: 5}}))
	fmt.Println(s.Count())
	for _, keep := range []int{31, 32} {
		again, _ := stockroom.Open(s.Left(keep, "junk"), c)
		fmt.Println(again.Count())
	}
	// Output:
	// [] 7
	// 0 7
	// 0 0
	// 1 0
}
