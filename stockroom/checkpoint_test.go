package stockroom_test

import (
	"fmt"
	"slices"
	"strings"
	"testing"

	"stockroom/api"
	"stockroom/stockroom"
)

// checkCheckpoint makes a checkpoint, behind which the shop must tell what it told.
func checkCheckpoint(t *testing.T, what string, s *stockroom.Shop) {
	t.Helper()
	before := tell(t, s)
	if e := s.Checkpoint(); e != api.OK {
		t.Errorf("%s: Checkpoint = %d", what, e)
	}
	if got := tell(t, s); got != before {
		t.Errorf("%s: behind a checkpoint the shop tells %v, told %v", what, got, before)
	}
}

// checkPoint makes a checkpoint, and holds what is left behind it against the snapshot of a model.
func checkPoint(t *testing.T, what string, s *stockroom.Shop, m *model) {
	t.Helper()
	checkCheckpoint(t, what, s)
	checkLeft(t, what, s, logOf(), snapOf(m.snapshot()))
	if got := tell(t, s); got != m.told() {
		t.Errorf("%s:\nthe shop tells %v\nwant           %v", what, got, m.told())
	}
	again, e := stockroom.Open(s.Left(0, ""), widest)
	if e != api.OK {
		t.Errorf("%s: what is left behind a checkpoint may not be opened: error %d", what, e)
	} else if got := tell(t, again); got != m.told() {
		t.Errorf("%s: opened again\nthe shop tells %v\nwant           %v", what, got, m.told())
	}
}

// P10.

func TestCheckpointOfABookAtTheBeginning(t *testing.T) {
	nothing := api.File{Name: "snap", Data: frameOf(strings.Repeat("\x00", 80))}
	s := mustOpen(t, configOf(1, 1, 100))
	checkPoint(t, "nothing was done", s, newModel(20))
	checkLeft(t, "nothing was done", s, logOf(), nothing)
	checkTold(t, "nothing was done", s, stocked(0))
	wrong := mustOpen(t, widest)
	checkServe(t, "wrong ones", wrong, "w0 w0 w0", api.Request{}, receive(1, 8, 1), tick(1, -1))
	checkPoint(t, "wrong ones", wrong, newModel(20))
	refused := mustOpen(t, configOf(20, 16, 100))
	checkServe(t, "too many", refused, words(refusals(4)), receives(1, 4)...)
	checkPoint(t, "a refused group", refused, newModel(20))
	for _, tmp := range []string{"", "half", nothing.Data} {
		checkPoint(t, "a tmp of old", mustOpen(t, widest, api.File{Name: "tmp", Data: tmp}), newModel(20))
	}
}

// Every number of the snapshot stands where the document puts it.
func TestCheckpointHasTheWrittenNumbers(t *testing.T) {
	s := mustOpen(t, configOf(4, 3, 5000))
	checkServe(t, "something of everything", s, "d9 d1000000 d7 d6 d2 r0 d1", receive(1, 0, 9), receive(2, 7, 1000000), reserve(3, 0, 50, 2, 1000000000),
		reserve(4, 0, 3, 1, 8), commit(5, 50), release(6, 9), tick(7, 8))
	checkServe(t, "two holds", s, "d999999 d6", reserve(1000000000, 7, 9, 1, 10), reserve(8, 0, 2, 1, 9))
	cells := []int{9, 2, 0, 0, 0, 0, 0, 0, 0, 0, 0, 0, 0, 0, 1000000, 0}
	holds := []int{2, 2, 0, 1, 9, 9, 7, 1, 10}
	past := []int{4, 6, 3, 0, 9, 0, 0, 1, 0, 7, 4, 0, 0, 0, 8, 0, 1, 1000000000, 1, 7, 9, 1, 10, 0, 999999, 8, 1, 0, 2, 1, 9, 0, 6}
	checkCheckpoint(t, "something of everything", s)
	checkLeft(t, "something of everything", s, logOf(), snapOf(slices.Concat([]int{9, 8}, cells, holds, past)))
}

func TestCheckpointOfNoHoldAndOfAll(t *testing.T) {
	for _, n := range []int{0, 1, 2, 49, 50} {
		m := &shopModel{model: newModel(20), config: configOf(20, 7, 5000)}
		s := mustOpen(t, m.config)
		var l []api.Request
		for i := range 8 {
			l = append(l, receive(1+i, i, 1000))
		}
		for i := range n { // the numbers fall, and are to rise in the snapshot
			l = append(l, reserve(10+i, i%8, 50-i, 1+i, 1000000000-i))
		}
		if got, e := s.Serve(l); e != api.OK || !slices.Equal(got, m.serve(l)) {
			t.Fatalf("%d holds: Serve = %s, %d", n, repliesOf(got), e)
		}
		if len(m.holds) != n {
			t.Fatalf("%d holds are live, want %d", len(m.holds), n)
		}
		checkPoint(t, fmt.Sprint(n, " holds"), s, m.model)
		all := []api.Request{tick(100, 1000000000)}
		if got, _ := s.Serve(all); !slices.Equal(got, m.serve(all)) || got[0] != (api.Reply{Count: n}) {
			t.Errorf("%d holds: behind a checkpoint a tick ends %v", n, got)
		}
		checkPoint(t, fmt.Sprint("none of ", n, " holds is live any more"), s, m.model)
	}
}

func TestCheckpointOfWhatIsRemembered(t *testing.T) {
	for window := 1; window <= 20; window++ {
		for _, n := range []int{0, 1, 2, 19, 20, 21, 45} {
			m, s := newModel(window), mustOpen(t, configOf(window, 4, 5000))
			for _, r := range receives(1, n) {
				m.ask(r)
			}
			what := fmt.Sprint("window ", window, ", ", n, " done")
			checkServe(t, what, s, words(counts(1, n)), receives(1, n)...)
			checkPoint(t, what, s, m)
			if len(m.past) != min(n, window) {
				t.Fatalf("%s: %d are remembered", what, len(m.past))
			}
			again := mustOpen(t, configOf(window, 4, 5000), s.Left(0, "")...)
			for _, shop := range []*stockroom.Shop{s, again} {
				first := max(1, n-window+1) // of those that are remembered
				checkServe(t, what+", sent again", shop, words(counts(first, n-first+1)), receives(first, n-first+1)...)
				checkServe(t, what+", one more", shop, fmt.Sprint("d", n+1), receive(n+100, 0, 1))
			}
		}
	}
	bare := someBook()
	bare.past = nil
	s := mustOpen(t, widest, snapOf(bare.snapshot()))
	checkPoint(t, "much done, nothing remembered", s, bare)
}

// The elder snap stays as it is until a checkpoint; the new one has only what the window takes.
func TestCheckpointOfASnapThatRemembersMore(t *testing.T) {
	for window := 1; window <= 20; window++ {
		m := newModel(20)
		for _, r := range receives(1, 20) {
			m.ask(r)
		}
		elder := snapOf(m.snapshot())
		s := mustOpen(t, configOf(window, 16, 5000), elder)
		checkLeft(t, "ahead of a checkpoint", s, logOf(), elder)
		m.window = window
		m.trim()
		checkPoint(t, fmt.Sprint("of 20 remembered ", window), s, m)
		wide := mustOpen(t, widest, s.Left(0, "")...)
		for id := 1; id <= 20; id++ {
			want := fmt.Sprint("d", id)
			if id <= 20-window {
				want = fmt.Sprint("d", 20+id)
			}
			if id <= 20-window || window == 20 { // what is done makes the widest window forget
				checkServe(t, fmt.Sprint("window ", window, ", ID ", id), wide, want, receive(id, 0, 1))
			}
		}
		m.ask(receive(30, 0, 1))
		checkServe(t, "one more", s, "d21", receive(30, 0, 1))
		checkPoint(t, fmt.Sprint("one more behind ", window), s, m)
	}
}

func TestCheckpointTwice(t *testing.T) {
	m := someBook()
	for _, files := range [][]api.File{{snapOf(m.snapshot())}, {snapOf(m.snapshot()), logOf(recordOf(9, tick(1, 1)))}} {
		s := mustOpen(t, widest, files...)
		for i := range 5 {
			checkPoint(t, fmt.Sprint("checkpoint ", i), s, m)
		}
	}
	empty := mustOpen(t, widest)
	for range 3 {
		checkPoint(t, "nothing was done", empty, newModel(20))
	}
}

// A log that is full takes records again behind each checkpoint, and as many.
func TestCheckpointMakesRoom(t *testing.T) {
	for _, x := range []struct{ group, room int }{{1, 100}, {2, 128}, {3, 100}, {16, 512}, {16, 5000}} {
		s := mustOpen(t, configOf(20, x.group, x.room))
		fits := x.room / 32 / x.group * x.group
		done := 0
		for range 6 {
			checkServe(t, "as many as the log takes", s, words(counts(done+1, fits), refusals(x.group)), receives(done+1, fits+x.group)...)
			done += fits
			checkTold(t, "a full log", s, stocked(done))
			first := max(done-fits, 0) + 1
			if left := s.Left(0, ""); left[0] != logOf(recordsOf(first, receives(first, fits)...)...) {
				t.Errorf("groups of %d: the log is %x", x.group, left[0].Data)
			}
			checkCheckpoint(t, "a full log", s)
			if left := s.Left(0, ""); len(left) != 2 || left[0] != logOf() {
				t.Errorf("groups of %d: behind a checkpoint are left%s", x.group, filesOf(left))
			}
		}
	}
}

// The log is emptied whatever it has: what is passed over, more than there is room for, and what was cut off.
func TestCheckpointOfALogOfOld(t *testing.T) {
	records := recordsOf(1, receives(1, 200)...)
	two := newModel(20)
	two.count = 2
	for _, x := range []struct {
		what  string
		files []api.File
	}{
		{"three records", []api.File{logOf(records[:3]...)}},
		{"200 records", []api.File{logOf(records...)}},
		{"a torn one", []api.File{logOf(records[0], records[1][:31])}},
		{"one that does not follow", []api.File{logOf(records[0], records[2])}},
		{"records that are passed over", []api.File{snapOf(two.snapshot()), logOf(records[:2]...)}},
		{"passed over and done", []api.File{logOf(records[:3]...), snapOf(two.snapshot())}},
		{"passed over ahead of the snapshot's last", []api.File{logOf(records[:1]...), snapOf(two.snapshot())}},
		{"all three files", []api.File{logOf(records[:3]...), snapOf(two.snapshot()), {Name: "tmp", Data: records[0]}}},
	} {
		m := openShopModel(t, x.files, configOf(20, 1, 100))
		s := mustOpen(t, m.config, x.files...)
		checkPoint(t, x.what, s, m.model)
		m.checkpoint()
		l := receives(1001, 4)
		if got, e := s.Serve(l); e != api.OK || !slices.Equal(got, m.serve(l)) || repliesOf(got[3:]) != "f0" {
			t.Errorf("%s: behind a checkpoint Serve = %s, %d", x.what, repliesOf(got), e)
		}
		checkLeft(t, x.what+", served", s, m.left(0, "")...)
		again := mustOpen(t, m.config, s.Left(0, "")...)
		if got := tell(t, again); got != m.told() {
			t.Errorf("%s: opened again the shop tells %v, want %v", x.what, got, m.told())
		}
	}
}

// The records go on from the snapshot's last.
func TestServeBehindCheckpoint(t *testing.T) {
	s := mustOpen(t, widest)
	m := newModel(20)
	m.ask(receive(1, 0, 5))
	m.ask(commit(2, 9))
	checkServe(t, "two", s, "d5 r0", receive(1, 0, 5), commit(2, 9))
	checkPoint(t, "two", s, m)
	snap := snapOf(m.snapshot())
	checkServe(t, "what was done ahead", s, "d5 r0 c0 w0", receive(1, 0, 5), commit(2, 9), commit(1, 9), commit(3, 0))
	checkLeft(t, "nothing new", s, logOf(), snap)
	checkServe(t, "two more", s, "d2 d3", reserve(3, 0, 7, 3, 9), commit(4, 7))
	checkLeft(t, "two more", s, logOf(recordsOf(3, reserve(3, 0, 7, 3, 9), commit(4, 7))...), snap)
	checkTold(t, "two more", s, "4 done, clock 0, cell 0: 5 = 0 held + 3 gone + 2 free")
	m.ask(reserve(3, 0, 7, 3, 9))
	m.ask(commit(4, 7))
	checkPoint(t, "four", s, m)
}

func TestCheckpointOfTheMostDone(t *testing.T) {
	m := newModel(20)
	m.count = 1000000000
	s := mustOpen(t, configOf(20, 1, 100), snapOf(m.snapshot()))
	checkPoint(t, "10^9 done", s, m)
	checkServe(t, "behind 10^9", s, "f0 w0", receive(1, 0, 1), receive(1, 8, 1))
	checkLeft(t, "behind 10^9", s, logOf(), snapOf(m.snapshot()))
	m.count = 999999998
	elder := snapOf(m.snapshot())
	s = mustOpen(t, configOf(20, 1, 5000), elder)
	checkServe(t, "up to 10^9", s, "d1 d2 f0", receives(1, 3)...)
	checkLeft(t, "up to 10^9", s, logOf(recordsOf(999999999, receives(1, 2)...)...), elder)
	m.ask(receive(1, 0, 1))
	m.ask(receive(2, 0, 1))
	checkPoint(t, "up to 10^9", s, m)
	for _, shop := range []*stockroom.Shop{s, mustOpen(t, configOf(20, 1, 5000), s.Left(0, "")...)} {
		checkServe(t, "behind the last", shop, "d2 c0 f0", receive(2, 0, 1), receive(2, 0, 2), receive(3, 0, 1))
		checkLeft(t, "behind the last", shop, logOf(), snapOf(m.snapshot()))
		checkTold(t, "behind the last", shop, "1000000000 done, clock 0, cell 0: 2 = 0 held + 0 gone + 2 free")
	}
}

func TestCheckpointOfTheMostOfAll(t *testing.T) {
	m := newModel(20)
	m.count, m.clock = 1000000000, 999999999
	for i := range m.in {
		m.in[i], m.out[i] = 1000000000, 1000000000-7000000
	}
	for n := 1; n <= 50; n++ {
		m.holds[n] = api.Hold{Cell: n % 8, Count: 1000000, Time: 1000000000}
	}
	for i := range 20 {
		m.past = append(m.past, asked{reserve(1000000000-i, 7, 50, 1000000, 1000000000), api.Reply{Count: 1000000000}})
	}
	s := mustOpen(t, widest, snapOf(m.snapshot()))
	checkPoint(t, "the most of all", s, m)
	if n := len(s.Left(0, "")[1].Data); n != 4+4*380 {
		t.Errorf("the longest snap has %d bytes", n)
	}
}

// P1, P2.

func TestCheckpointTouchesNoOtherShop(t *testing.T) {
	files := []api.File{logOf(recordsOf(10, receive(12, 0, 1))...), snapOf(someBook().snapshot())}
	before := slices.Clone(files)
	a, b := mustOpen(t, widest, files...), mustOpen(t, widest, files...)
	left := a.Left(0, "")
	checkCheckpoint(t, "the first", a)
	checkLeft(t, "the second", b, before...)
	if !slices.Equal(left, before) || !slices.Equal(files, before) {
		t.Errorf("a checkpoint changed an earlier answer to%s\nor what was handed in to%s", filesOf(left), filesOf(files))
	}
	checkServe(t, "the second", b, "d52", receive(13, 0, 1))
	checkServe(t, "the first", a, "d51 d60", receive(12, 0, 1), receive(14, 0, 9))
}

func TestCheckpointsOneAfterTheOtherWithoutEnd(t *testing.T) {
	s := mustOpen(t, configOf(1, 1, 100))
	for i := range 3000 {
		checkServe(t, "one", s, fmt.Sprint("d", i+1), receive(i+1, 0, 1))
		if e := s.Checkpoint(); e != api.OK {
			t.Fatalf("Checkpoint = %d", e)
		}
	}
	m := newModel(1)
	for _, r := range receives(1, 3000) {
		m.ask(r)
	}
	checkPoint(t, "3000", s, m)
}

func ExampleShop_Checkpoint() {
	s, _ := stockroom.Open(nil, api.Config{Window: 2, Group: 2, Room: 100})
	s.Serve([]api.Request{
		{ID: 1, Kind: api.Receive, Cell: 0, Count: 5},
		{ID: 2, Kind: api.Reserve, Cell: 0, Hold: 7, Count: 3, Time: 10},
		{ID: 3, Kind: api.Reserve, Cell: 0, Hold: 8, Count: 3, Time: 10},
	})
	again := []api.Request{{ID: 1, Kind: api.Receive, Cell: 0, Count: 5}}
	fmt.Println(s.Serve(again))
	fmt.Println(s.Checkpoint())
	fmt.Println(s.Serve(again))
	for _, f := range s.Left(0, "") {
		fmt.Println(f.Name, len(f.Data))
	}
	// Output:
	// [{3 0}] 0
	// 0
	// [{0 7}] 0
	// log 32
	// snap 164
}
