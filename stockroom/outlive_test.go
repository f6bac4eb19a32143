package stockroom_test

import (
	"fmt"
	"maps"
	"math/rand"
	"runtime"
	"slices"
	"strings"
	"testing"
	"time"
	"unsafe"

	"stockroom/api"
	"stockroom/stockroom"
)

// checkLeftBy holds what is left against a model, at the edges of what is under way.
func checkLeftBy(t *testing.T, what string, s *stockroom.Shop, m *shopModel) {
	t.Helper()
	n := len(m.logWay) + len(m.tmpWay)
	long := strings.Repeat("0123456789", 6)
	for _, keep := range []int{-1 << 63, -1, 0, 1, n - 1, n, n + 1, 1<<63 - 1} {
		for _, junk := range []string{"", long[:1], long[:49], long[:50], long[:51], long} {
			if got, want := s.Left(keep, junk), m.left(keep, junk); !slices.Equal(got, want) {
				t.Errorf("%s: Left(%d, %q) =%s\nwant%s", what, keep, junk, filesOf(got), filesOf(want))
				return
			}
		}
	}
}

// checkSame holds all that a shop tells against a model.
func checkSame(t *testing.T, what string, s *stockroom.Shop, m *model) {
	t.Helper()
	if got := tell(t, s); got != m.told() {
		t.Errorf("%s:\nthe shop tells %v\nwant           %v", what, got, m.told())
	}
}

// pointed are shops to make a checkpoint of: without and with an elder snap, with an empty log, a short one and one without room.
func pointed() map[string][]api.File {
	snap := snapOf(someBook().snapshot())
	return map[string][]api.File{
		"nothing":                {},
		"a log":                  {logOf(recordsOf(1, receives(1, 2)...)...)},
		"a full log":             {logOf(recordsOf(1, receives(1, 3)...)...)},
		"a snap":                 {snap},
		"a snap and a log":       {snap, logOf(recordsOf(10, receive(12, 0, 1), commit(13, 7))...)},
		"a snap and a full log":  {logOf(recordsOf(10, receives(12, 3)...)...), snap},
		"a log of old":           {logOf(recordOf(9, tick(1, 1)), recordOf(10, receive(12, 0, 1))), snap},
		"a tmp of old":           {{Name: "tmp", Data: "half"}},
		"a snap and two of old":  {snap, logOf(recordOf(8, tick(1, 1)), recordOf(9, tick(2, 1))), {Name: "tmp", Data: "half"}},
		"more than there's room": {logOf(recordsOf(1, receives(1, 30)...)...)},
	}
}

// P10 to P13: the power goes at each step of a checkpoint, or behind the last.
func TestPowerGoesAtEachStepOfCheckpoint(t *testing.T) {
	c := configOf(20, 1, 100)
	for name, files := range pointed() {
		before := openShopModel(t, files, c)
		log, elder := before.log, before.left(0, "")[1:]
		snap := snapOf(before.snapshot())
		whole := api.File{Name: "tmp", Data: snap.Data}
		for arm := 1; arm <= 4; arm++ {
			what := fmt.Sprint(name, ", step ", arm)
			s := mustOpen(t, c, files...)
			s.Arm(arm)
			if e := s.Checkpoint(); e != api.ErrDown {
				t.Errorf("%s: Checkpoint = %d", what, e)
			}
			checkDown(t, what, s)
			switch arm {
			case 1, 2:
				for _, keep := range []int{-1 << 63, -1, 0, 1, 83, len(whole.Data) - 1, len(whole.Data), len(whole.Data) + 1, 1<<63 - 1} {
					for _, n := range []int{0, 1, 50, 51} {
						tmp := whole.Data[:min(max(keep, 0), len(whole.Data))] + strings.Repeat("j", min(n, 50))
						want := slices.Concat([]api.File{logOf(log)}, elder, []api.File{{Name: "tmp", Data: tmp}})
						if got := s.Left(keep, strings.Repeat("j", n)); !slices.Equal(got, want) {
							t.Errorf("%s: Left(%d, %d bytes) =%s\nwant%s", what, keep, n, filesOf(got), filesOf(want))
						}
					}
				}
			case 3:
				checkLeft(t, what, s, slices.Concat([]api.File{logOf(log)}, elder, []api.File{whole})...)
			case 4:
				checkLeft(t, what, s, logOf(log), snap)
			}
			for _, keep := range []int{0, 10, 1000, 5000} {
				again := mustOpen(t, c, s.Left(keep, "junk")...)
				checkSame(t, what+", opened again", again, before.model)
				checkPoint(t, what+", opened again", again, before.model)
			}
		}
		for _, arm := range append(ends[:4:4], 5, 6, 1<<63-1) {
			s := mustOpen(t, c, files...)
			s.Arm(arm)
			checkCheckpoint(t, name, s)
			checkLeft(t, name, s, logOf(), snap)
			checkSame(t, name, s, before.model)
		}
	}
}

// P10, P11: the step behind a checkpoint's last is the next one's first, or Serve's.
func TestPowerGoesBehindACheckpoint(t *testing.T) {
	for arm := 5; arm <= 8; arm++ {
		s, m := mustOpen(t, widest), &shopModel{model: newModel(20), config: widest}
		l := receives(1, 2)
		s.Serve(l)
		m.serve(l)
		s.Arm(arm)
		m.arm(arm)
		checkCheckpoint(t, "the first", s)
		m.checkpoint()
		if e := s.Checkpoint(); e != api.ErrDown || m.checkpoint() != api.ErrDown {
			t.Errorf("Arm(%d): the second Checkpoint = %d", arm, e)
		}
		checkDown(t, fmt.Sprint("Arm ", arm), s)
		checkLeftBy(t, fmt.Sprint("Arm ", arm), s, m)
	}
	s := mustOpen(t, widest)
	s.Arm(5)
	checkCheckpoint(t, "of nothing", s)
	checkServeDown(t, "the fifth step", s, "", receive(1, 0, 1))
	checkUnderWay(t, "the fifth step", s, "", recordOf(1, receive(1, 0, 1)), snapOf(newModel(20).snapshot()))
}

// P7 to P12 against the model: calls and Arms of all kinds, on files of all kinds.
func TestArmAgainstTheModel(t *testing.T) {
	r := rand.New(rand.NewSource(21))
	seen := map[string]int{}
	for i := range 2500 {
		files, c := someFiles(r)
		c.Room = []int{100, 100 + r.Intn(600), c.Room}[r.Intn(3)]
		if _, _, e := openModel(files, c); e != api.OK {
			continue
		}
		m, s := openShopModel(t, files, c), mustOpen(t, c, files...)
		for range 1 + r.Intn(12) {
			what := []string{"serve", "serve", "checkpoint", "arm", "arm"}[r.Intn(5)]
			down := m.gone
			switch what {
			case "serve":
				l := someRequests(r)
				want := m.serve(l)
				if got, e := s.Serve(l); (e == api.ErrDown) != m.gone || e != api.OK && e != api.ErrDown || !slices.Equal(got, want) {
					t.Fatalf("run %d, %v: Serve(%v)\nanswers %s, %d\nwant    %s, gone is %v", i, c, l, repliesOf(got), e, repliesOf(want), m.gone)
				}
			case "checkpoint":
				want := m.checkpoint()
				if e := s.Checkpoint(); e != want {
					t.Fatalf("run %d, %v: Checkpoint = %d, want %d", i, c, e, want)
				}
			case "arm":
				n := []int{r.Intn(9), r.Intn(3) - 1, 1<<63 - 1, -1 << 63}[r.Intn(4)]
				s.Arm(n)
				m.arm(n)
			}
			if m.gone && !down {
				what += " in which the power went"
			} else if m.gone {
				what += " without power"
			}
			seen[what]++
			checkLeftBy(t, fmt.Sprint("run ", i, ", ", c, ", ", what), s, m)
			if m.gone {
				checkDown(t, fmt.Sprint("run ", i, ", ", c, ", ", what), s)
			} else {
				checkSame(t, fmt.Sprint("run ", i, ", ", c, ", ", what), s, m.model)
			}
			if t.Failed() {
				return
			}
		}
	}
	if len(seen) != 8 || slices.Min(slices.Collect(maps.Values(seen))) < 100 {
		t.Errorf("too little was asked: %v", seen)
	}
}

// P13.

// history is what has been done, the one ahead first, with what each was answered, and the book behind each.
type history struct {
	did   []asked
	books []*model // books[n]: behind n
}

func newHistory(window int) *history {
	return &history{books: []*model{newModel(window)}}
}

// do adds a request that is done, and tells whether it is one.
func (h *history) do(r api.Request) bool {
	next := h.books[len(h.did)].clone()
	reply, done := next.ask(r)
	if done {
		h.did, h.books = append(h.did, asked{r, reply}), append(h.books, next)
	}
	return done
}

// cut forgets all that was done behind the first n.
func (h *history) cut(n int) {
	h.did, h.books = h.did[:n], h.books[:n+1]
}

// checkOutlived holds a shop, opened by what another left, against what was done there: at least so many, and of the others the first few.
func checkOutlived(t *testing.T, what string, s *stockroom.Shop, h *history, answered int) int {
	t.Helper()
	n, e := s.Count()
	if e != api.OK || n < answered || n > len(h.did) {
		t.Fatalf("%s: %d are done, error %d; %d were answered, %d written", what, n, e, answered, len(h.did))
	}
	checkSame(t, what, s, h.books[n])
	for i, c := range tell(t, s).cells {
		if c.OnHand != c.Held+c.Committed+c.Free || c.OnHand < 0 || c.Held < 0 || c.Committed < 0 || c.Free < 0 {
			t.Errorf("%s: cell %d is %v", what, i, c)
		}
	}
	for i := max(0, n-h.books[n].window); i < n; i++ {
		checkServe(t, fmt.Sprint(what, ", the ", i+1, ". of ", n, " sent again"), s, repliesOf([]api.Reply{h.did[i].reply}), h.did[i].request)
		other := tick(h.did[i].request.ID, 777777777) // which is asked for nowhere
		checkServe(t, fmt.Sprint(what, ", another one as the ", i+1, ". of ", n), s, "c0", other)
	}
	checkSame(t, what+", sent again", s, h.books[n])
	return n
}

// Every step of a Serve of several groups, with every number of bytes kept.
func TestEveryByteKept(t *testing.T) {
	l := []api.Request{receive(1, 3, 9), reserve(2, 3, 7, 4, 10), reserve(3, 3, 8, 9, 10), commit(4, 7), tick(5, 3), receive(6, 0, 1), reserve(7, 3, 50, 5, 1000)}
	for _, c := range []api.Config{configOf(20, 3, 5000), configOf(2, 3, 5000), configOf(1, 7, 5000), configOf(20, 1, 5000), configOf(3, 16, 5000), configOf(20, 2, 224)} {
		h := newHistory(c.Window)
		for _, r := range l {
			h.do(r)
		}
		records := recordsOf(1, l...)
		for arm := 1; arm <= 2*((len(l)+c.Group-1)/c.Group); arm++ {
			s := mustOpen(t, c)
			s.Arm(arm)
			replies, _ := s.Serve(l)
			way := strings.Join(records[len(replies):min(len(l), len(replies)+c.Group)], "")
			for keep := range len(way) + 2 {
				for _, junk := range []string{"", "\xff", strings.Repeat("\x00", 50), strings.Repeat("j", 51)} {
					what := fmt.Sprint(c, ", step ", arm, ", ", keep, " bytes and ", len(junk), " of junk")
					again := mustOpen(t, c, s.Left(keep, junk)...)
					n := checkOutlived(t, what, again, h, len(replies))
					if want := len(replies) + wholeRecords(way, keep, junk); n != want {
						t.Errorf("%s: %d are done, want %d", what, n, want)
					}
					for i, r := range l[n:] { // the others are done now, and answered as they would have been
						checkServe(t, what, again, repliesOf([]api.Reply{h.did[n+i].reply}), r)
					}
					checkSame(t, what+", all", again, h.books[len(l)])
				}
			}
		}
	}
}

// wholeRecords tells how many records of those under way are whole: junk may happen to have the bytes that were torn off.
func wholeRecords(way string, keep int, junk string) int {
	text := way[:min(keep, len(way))] + junk[:min(50, len(junk))]
	n := 0
	for n < min(len(way), len(text)) && way[n] == text[n] {
		n++
	}
	return n / 32
}

// Junk that is just what was torn off makes the record whole; junk that is another record is taken for one, by P6's words.
func TestJunkThatMakesAFrame(t *testing.T) {
	one, two := recordOf(1, receive(1, 0, 1)), recordOf(2, receive(2, 0, 1))
	s := mustOpen(t, widest)
	s.Arm(1)
	checkServeDown(t, "two", s, "", receives(1, 2)...)
	for _, x := range []struct {
		keep int
		junk string
		want int
	}{
		{31, one[31:], 1}, {1, one[1:], 1}, {0, one, 1}, {32, two, 2}, {0, one + two, 1}, {14, one[14:] + two, 2}, {13, one[13:] + two, 1},
		{31, "x", 0}, {32, one, 1}, {64, two, 2}, {0, two, 0}, {64, recordOf(3, receive(3, 0, 1)), 3},
	} {
		again := mustOpen(t, widest, s.Left(x.keep, x.junk)...)
		checkTold(t, fmt.Sprintf("Left(%d, %x)", x.keep, x.junk), again, stocked(x.want))
		checkLeft(t, fmt.Sprintf("Left(%d, %x)", x.keep, x.junk), again, logOf(recordsOf(1, receives(1, x.want)...)...))
	}
}

// Left may be asked as often as one likes: each answer is of what is under way, not of an earlier answer.
func TestLeftTwiceWithoutPower(t *testing.T) {
	for arm := 1; arm <= 2; arm++ {
		s := mustOpen(t, widest)
		s.Arm(arm)
		checkServeDown(t, "two", s, "", receives(1, 2)...)
		records := strings.Join(recordsOf(1, receives(1, 2)...), "")
		for range 2 {
			for _, keep := range []int{64, 0, 33, 1, -1, 63, 65, 32} {
				for _, junk := range []string{"junk", "", "x"} {
					want := records[:min(max(keep, 0), 64)] + junk
					if got := s.Left(keep, junk); !slices.Equal(got, []api.File{logOf(want)}) {
						t.Errorf("Left(%d, %q) =%s\nwant %x", keep, junk, filesOf(got), want)
					}
				}
			}
		}
		for _, n := range []int{0, 1, 2, 1, 0} {
			checkTold(t, fmt.Sprint(n, " kept"), mustOpen(t, widest, s.Left(32*n+3, "")...), stocked(n))
		}
	}
}

// A shop that is opened with what is left goes on, and the power goes there again, and again.
func TestPowerGoesAgain(t *testing.T) {
	c := configOf(3, 2, 200)
	var left []api.File
	done := 0
	for i := range 60 {
		s := mustOpen(t, c, left...)
		checkTold(t, fmt.Sprint("opening ", i), s, stocked(done))
		if i%3 == 2 {
			s.Arm(1 + i%4)
			if e := s.Checkpoint(); e != api.ErrDown {
				t.Fatalf("opening %d: Checkpoint = %d", i, e)
			}
			left = s.Left(i, "junk")
			s = mustOpen(t, c, left...)
			checkTold(t, fmt.Sprint("opening ", i, ", checkpoint"), s, stocked(done))
			checkCheckpoint(t, fmt.Sprint("opening ", i), s)
		}
		s.Arm(1 + i%2)
		checkServeDown(t, fmt.Sprint("opening ", i), s, "", receives(done+1, 2)...)
		keep := []int{0, 31, 32, 40, 63, 64, 65}[i%7]
		left = s.Left(keep, "junk")
		done += min(keep, 64) / 32
	}
	if done < 40 {
		t.Errorf("only %d are done", done)
	}
}

// The new snap is there and the log with its records too, which are passed over: what is served then stands behind them.
func TestPowerGoesBeforeTheLogIsEmptied(t *testing.T) {
	s := mustOpen(t, configOf(20, 2, 128))
	checkServe(t, "two", s, "d1 d2", receives(1, 2)...)
	s.Arm(4)
	if e := s.Checkpoint(); e != api.ErrDown {
		t.Fatalf("Checkpoint = %d", e)
	}
	records := recordsOf(1, receives(1, 4)...)
	m := newModel(20)
	m.ask(receive(1, 0, 1))
	m.ask(receive(2, 0, 1))
	snap := snapOf(m.snapshot())
	checkLeft(t, "the fourth step", s, logOf(records[:2]...), snap)
	s = mustOpen(t, configOf(20, 2, 128), s.Left(0, "")...)
	checkServe(t, "sent again", s, "d1 d2", receives(1, 2)...)
	s.Arm(2)
	checkServeDown(t, "two more", s, "", receives(3, 2)...)
	checkUnderWay(t, "two more", s, records[0]+records[1], records[2]+records[3], snap)
	s = mustOpen(t, configOf(20, 2, 128), s.Left(40, "junk")...)
	checkTold(t, "one of them", s, stocked(3))
	checkServe(t, "all sent again", s, "d1 d2 d3 d4", receives(1, 4)...)
	checkServe(t, "a full log", s, "f0", receive(5, 0, 1))
	checkLeft(t, "a full log", s, logOf(records...), snap)
}

// Long lives of shops: whenever the power goes and whatever is left, what was answered has been done, once, with its answer, and the book goes on from there.
func TestWhatWasAnsweredOutlivesThePower(t *testing.T) {
	r := rand.New(rand.NewSource(22))
	seen := map[string]int{}
	for i := range 250 {
		c := configOf([]int{20, 1 + r.Intn(20)}[r.Intn(2)], 1+r.Intn(16), []int{100, 100 + r.Intn(600), 5000}[r.Intn(3)])
		h := newHistory(c.Window)
		s := mustOpen(t, c)
		for life := range 12 {
			what := fmt.Sprint("run ", i, ", life ", life, ", ", c)
			s.Arm(1 + r.Intn(20))
			answered := live(t, what, r, s, h, c.Group)
			s = mustOpen(t, c, s.Left(someKeep(r), someJunk(r))...)
			n := checkOutlived(t, what, s, h, answered)
			switch {
			case len(h.did) == answered:
				seen["in a checkpoint"]++
			case n == answered:
				seen["none of the group"]++
			case n == len(h.did):
				seen["all of the group"]++
			default:
				seen["some of the group"]++
			}
			h.cut(n)
		}
	}
	if len(seen) != 4 || slices.Min(slices.Collect(maps.Values(seen))) < 50 {
		t.Errorf("too little was seen: %v", seen)
	}
}

// live asks things of an armed shop until the power goes; the history has all that was written then. It tells how many of it were answered.
func live(t *testing.T, what string, r *rand.Rand, s *stockroom.Shop, h *history, group int) int {
	t.Helper()
	for range 1000 {
		if r.Intn(6) == 0 {
			if e := s.Checkpoint(); e == api.ErrDown {
				return len(h.did)
			}
		}
		l := someRequests(r)
		replies, e := s.Serve(l)
		answer(t, what, h, l, replies)
		if e == api.ErrDown {
			answered := len(h.did)
			for _, q := range l[len(replies):min(len(l), len(replies)+group)] {
				h.do(q)
			}
			if len(replies)%group != 0 || len(h.did) == answered {
				t.Errorf("%s: the power went behind %d replies, with %d more to do", what, len(replies), len(h.did)-answered)
			}
			return answered
		}
		if len(replies) != len(l) {
			t.Fatalf("%s: %d replies to %d requests", what, len(replies), len(l))
		}
	}
	t.Fatalf("%s: the power did not go", what)
	return 0
}

// answer adds what was done by its replies: what was not refused is answered as in the book ahead, and the refused changed nothing.
func answer(t *testing.T, what string, h *history, l []api.Request, replies []api.Reply) {
	t.Helper()
	for i, p := range replies {
		if p.Code == api.Refused {
			continue
		}
		want, done := h.books[len(h.did)].clone().ask(l[i])
		if p != want {
			t.Errorf("%s: %v is answered %v, want %v", what, l[i], p, want)
		}
		if done {
			h.do(l[i])
		}
	}
}

func someKeep(r *rand.Rand) int {
	return []int{-1, 0, 1, 31, 32, 33, 64, r.Intn(600), 1<<63 - 1}[r.Intn(9)]
}

// someJunk is junk that makes no frame: the length that it begins with is above the bound, or what is torn stays torn.
func someJunk(r *rand.Rand) string {
	return []string{"", "x", "\xff\xff\xff\xff\xff", strings.Repeat("\xfe", 50), strings.Repeat("j", 60)}[r.Intn(5)]
}

// P1, P2.

// Whatever is asked in whatever order, every call ends and none panics.
func TestPowerNeverPanics(t *testing.T) {
	r := rand.New(rand.NewSource(23))
	one := func() int { return ends[r.Intn(len(ends))] }
	for range 300 {
		s := mustOpen(t, configOf(3, 5, 100), snapOf(someBook().snapshot()))
		for range 40 {
			switch r.Intn(8) {
			case 0:
				s.Arm(one())
			case 1:
				s.Arm(r.Intn(6))
			case 2:
				s.Checkpoint()
			case 3:
				s.Left(one(), junks[r.Intn(len(junks))])
			case 4:
				s.Cell(one())
				s.Hold(one())
			case 5:
				s.Clock()
				s.Count()
			default:
				l := make([]api.Request, r.Intn(12))
				for i := range l {
					l[i] = api.Request{ID: one(), Kind: r.Intn(7) - 1, Cell: one(), Hold: one(), Count: one(), Time: one()}
				}
				s.Serve(append(l, someRequests(r)...))
			}
		}
	}
}

func TestPowerGoesInVeryManyRequests(t *testing.T) {
	s := mustOpen(t, configOf(20, 1, 5000))
	l := slices.Concat(slices.Repeat([]api.Request{{}}, 50000), receives(1, 2), slices.Repeat([]api.Request{{}}, 50000))
	s.Arm(4)
	replies, e := s.Serve(l)
	if len(replies) != 50001 || e != api.ErrDown || replies[0] != (api.Reply{Code: api.Wrong}) || replies[50000] != (api.Reply{Count: 1}) {
		t.Errorf("%d replies, error %d", len(replies), e)
	}
	long := strings.Repeat("\xff", 1<<20)
	if got := s.Left(1<<63-1, long); !slices.Equal(got, []api.File{logOf(append(recordsOf(1, receives(1, 2)...), long[:50])...)}) {
		t.Errorf("left are %.300s", filesOf(got))
	}
}

// All goroutines of a call in which the power goes have ended when it answers.
func TestPowerGoesAndLeavesNoGoroutine(t *testing.T) {
	before := runtime.NumGoroutine()
	for i := range 50 {
		s := mustOpen(t, configOf(20, 16, 5000))
		s.Arm(1 + i%4)
		s.Serve(receives(1, 160))
	}
	after := runtime.NumGoroutine()
	for range 100 { // one that has called Done may need a moment to be gone
		if after <= before {
			return
		}
		time.Sleep(time.Millisecond)
		after = runtime.NumGoroutine()
	}
	t.Errorf("%d goroutines were there, then %d", before, after)
}

// Replies beside ErrDown are the caller's as any others, and the requests are not changed or kept.
func TestPowerGoesAndAnswersAreTheCallers(t *testing.T) {
	whole := append(receives(1, 10), api.Request{ID: -1}, api.Request{ID: -2})
	for arm := 1; arm <= 8; arm++ {
		l := slices.Clone(whole)
		a, b := mustOpen(t, configOf(20, 3, 5000)), mustOpen(t, configOf(20, 3, 5000))
		a.Arm(arm)
		b.Arm(arm)
		first, _ := a.Serve(l[:10])
		second, _ := b.Serve(l[:10])
		want := words(counts(1, (arm-1)/2*3))
		if !slices.Equal(l, whole) {
			t.Errorf("step %d: Serve changed what was handed in: %v", arm, l)
		}
		for i, p := range second[len(second):cap(second)] {
			if p != (api.Reply{}) {
				t.Errorf("step %d: spare room %d holds %v", arm, i, p)
			}
		}
		left := a.Left(50, "junk")
		clear(l)
		for i := range first[:cap(first)] {
			first[:cap(first)][i] = api.Reply{Code: -1, Count: -1}
		}
		if got := a.Left(50, "junk"); !slices.Equal(got, left) {
			t.Errorf("step %d: writing into an answer and what was handed in changed what is left to%s", arm, filesOf(got))
		}
		checkDown(t, fmt.Sprint("step ", arm), a)
		b.Serve(receives(40, 3))
		b.Arm(0)
		if got := repliesOf(second); got != want {
			t.Errorf("step %d: an answer is %s now, was %s", arm, got, want)
		}
	}
}

// The bytes of what is left are new, those under way and the junk too, and the junk is neither changed nor kept.
func TestLeftWithoutPowerIsNewMemory(t *testing.T) {
	for arm := 1; arm <= 6; arm++ {
		for _, keep := range []int{-1, 0, 5, 1000} {
			s, m := mustOpen(t, widest), &shopModel{model: newModel(20), config: widest}
			s.Arm(arm)
			m.arm(arm)
			s.Serve(receives(1, 2))
			m.serve(receives(1, 2))
			s.Checkpoint()
			m.checkpoint()
			junk := []byte("some junk")
			text := unsafe.String(&junk[0], len(junk))
			first, second := s.Left(keep, text), s.Left(keep, text)
			if string(junk) != "some junk" {
				t.Errorf("the junk was changed to %q", junk)
			}
			for i, f := range first {
				if f.Data != "" && unsafe.StringData(f.Data) == unsafe.StringData(second[i].Data) {
					t.Errorf("step %d: two answers share the bytes of the %s", arm, f.Name)
				}
				clear(unsafe.Slice(unsafe.StringData(f.Data), len(f.Data)))
			}
			clear(junk)
			for i := range first[:cap(first)] {
				first[:cap(first)][i] = api.File{Name: "x", Data: "x"}
			}
			want := m.left(keep, "some junk")
			if !slices.Equal(second, want) {
				t.Errorf("step %d, %d kept: an answer is now%s\nwant%s", arm, keep, filesOf(second), filesOf(want))
			}
			checkLeftBy(t, fmt.Sprint("step ", arm), s, m)
		}
	}
}
