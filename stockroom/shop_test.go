package stockroom

import (
	"math/rand"
	"strings"
	"testing"
	"unsafe"

	"stockroom/api"
	"stockroom/book"
	"stockroom/frames"
)

// record is the frame of a record: seven numbers below 256.
func record(numbers ...byte) string {
	var b []byte
	for _, n := range numbers {
		b = append(b, n, 0, 0, 0)
	}
	return frames.Of(string(b))
}

func open(t *testing.T, files ...api.File) *Shop {
	t.Helper()
	s, e := Open(files, api.Config{Window: 20, Group: 16, Room: 5000})
	if s == nil || e != api.OK {
		t.Fatalf("Open = %v, %d", s, e)
	}
	return s
}

// P9: without power every question has this answer, whatever else it would have.
func TestQuestionsWithoutPower(t *testing.T) {
	s := open(t, api.File{Name: "log", Data: record(1, 1, 0, 0, 0, 5, 0) + record(2, 2, 1, 0, 7, 3, 10) + record(3, 3, 4, 0, 0, 0, 4)})
	close(s.gone)
	for _, i := range []int{-1, 0, 7, 8} {
		if c, e := s.Cell(i); c != (api.Cell{}) || e != api.ErrDown {
			t.Errorf("Cell(%d) = %v, %d", i, c, e)
		}
	}
	for _, h := range []int{0, 1, 7, 50, 51} {
		if x, e := s.Hold(h); x != (api.Hold{}) || e != api.ErrDown {
			t.Errorf("Hold(%d) = %v, %d", h, x, e)
		}
	}
	if n, e := s.Clock(); n != 0 || e != api.ErrDown {
		t.Errorf("Clock = %d, %d", n, e)
	}
	if n, e := s.Count(); n != 0 || e != api.ErrDown {
		t.Errorf("Count = %d, %d", n, e)
	}
}

// P6: what stands behind the log's end is cut off at once.
func TestOpenCutsTheLogOff(t *testing.T) {
	one, two := record(1, 1, 0, 0, 0, 5, 0), record(2, 2, 1, 0, 7, 3, 10)
	for _, x := range []struct{ log, want string }{
		{"", ""}, {"junk", ""}, {one, one}, {one + two, one + two},
		{one + two[:31], one}, {one + "junk" + two, one}, {two, ""}, {one + two + two, one + two},
		{one + frames.Of("no record") + two, one}, {one + record(2, 2, 1, 8, 7, 3, 10) + two, one},
	} {
		s := open(t, api.File{Name: "log", Data: x.log}, api.File{Name: "tmp", Data: one})
		if s.log != x.want || s.snap != "" {
			t.Errorf("of the log %x is left %x, want %x", x.log, s.log, x.want)
		}
	}
}

// P6: records that the snapshot's book has done are passed over, but stay in the log.
func TestOpenKeepsWhatIsPassedOver(t *testing.T) {
	snap := frames.Of("\x02\x00\x00\x00" + strings.Repeat("\x00", 76))
	log := record(1, 9, 9, 9, 9, 9, 9) + record(2, 0, 0, 0, 0, 0, 0)
	s := open(t, api.File{Name: "snap", Data: snap}, api.File{Name: "log", Data: log + record(4, 1, 4, 0, 0, 0, 1)})
	if s.log != log || s.snap != snap {
		t.Errorf("left are the log %x and the snap %x", s.log, s.snap)
	}
}

// P2: the shop's files are copies.
func TestOpenKeepsNoMemoryHandedIn(t *testing.T) {
	log := strings.Clone(record(1, 1, 0, 0, 0, 5, 0))
	snap := frames.Of(strings.Repeat("\x00", 80))
	s := open(t, api.File{Name: "log", Data: log}, api.File{Name: "snap", Data: snap})
	if s.log != log || unsafe.StringData(s.log) == unsafe.StringData(log) {
		t.Error("the log is not a copy of what was handed in")
	}
	if s.snap != snap || unsafe.StringData(s.snap) == unsafe.StringData(snap) {
		t.Error("the snap is not a copy of what was handed in")
	}
}

func requests(first, n int) []api.Request {
	var l []api.Request
	for i := range n {
		l = append(l, api.Request{ID: first + i, Count: 1})
	}
	return l
}

// P7: without power nothing is answered, and nothing done, not even of nothing.
func TestServeWithoutPower(t *testing.T) {
	s := open(t, api.File{Name: "log", Data: record(1, 1, 0, 0, 0, 1, 0)})
	close(s.gone)
	before := *s
	for _, l := range [][]api.Request{nil, {}, {{}}, requests(1, 1), requests(1, 40)} {
		if replies, e := s.Serve(l); replies != nil || e != api.ErrDown {
			t.Errorf("Serve of %d requests = %v, %d", len(l), replies, e)
		}
	}
	if *s != before {
		t.Error("what was served without power changed the shop")
	}
}

// P7: the records of what was done stand at the log's end, and those of nothing else.
func TestServeWritesRecords(t *testing.T) {
	receive, reserve := api.Request{ID: 1, Kind: api.Receive, Cell: 3, Count: 5}, api.Request{ID: 2, Kind: api.Reserve, Cell: 3, Hold: 7, Count: 4, Time: 10}
	commit, release, tick := api.Request{ID: 3, Kind: api.Commit, Hold: 7}, api.Request{ID: 4, Kind: api.Release, Hold: 7}, api.Request{ID: 5, Kind: api.Tick, Time: 9}
	whole := record(1, 1, 0, 3, 0, 5, 0) + record(2, 2, 1, 3, 7, 4, 10) + record(3, 3, 2, 0, 7, 0, 0) + record(4, 4, 3, 0, 7, 0, 0) + record(5, 5, 4, 0, 0, 0, 9)
	for group := 1; group <= api.MaxGroup; group++ {
		s, _ := Open(nil, api.Config{Window: 20, Group: group, Room: 5000})
		for _, x := range []struct {
			l    []api.Request
			want string
		}{
			{nil, ""}, {[]api.Request{{}, {ID: 1, Kind: 5}}, ""},
			{[]api.Request{receive, receive, {}, reserve, reserve}, whole[:64]},
			{[]api.Request{receive, reserve, {ID: 1, Kind: api.Tick}}, whole[:64]},
			{[]api.Request{commit, release, tick, release, commit}, whole},
		} {
			if _, e := s.Serve(x.l); e != api.OK || s.log != x.want || s.snap != "" {
				t.Errorf("groups of %d: behind %v the log is %x, want %x", group, x.l, s.log, x.want)
			}
		}
	}
}

// P7: a group that is refused writes nothing.
func TestServeWritesNothingOfARefusedGroup(t *testing.T) {
	s, _ := Open(nil, api.Config{Window: 20, Group: 3, Room: 100})
	s.Serve(requests(1, 1))
	one := record(1, 1, 0, 0, 0, 1, 0)
	if s.Serve(requests(2, 3)); s.log != one {
		t.Errorf("behind a refused group the log is %x", s.log)
	}
	if s.Serve(requests(2, 2)); s.log != one+record(2, 2, 0, 0, 0, 1, 0)+record(3, 3, 0, 0, 0, 1, 0) {
		t.Errorf("behind a group that there is room for the log is %x", s.log)
	}
}

// P7: a shop that is opened by the files of another has its book, and remembers what that one does.
func TestServeOutlivesItsShop(t *testing.T) {
	r := rand.New(rand.NewSource(5))
	for range 300 {
		c := api.Config{Window: 1 + r.Intn(20), Group: 1 + r.Intn(16), Room: 100 + r.Intn(3000)}
		s, _ := Open(nil, c)
		for range 5 {
			s.Serve(mixed(r, r.Intn(40)))
			again, e := Open([]api.File{{Name: "log", Data: s.log}}, c)
			if e != api.OK || again.book != s.book || again.log != s.log {
				t.Fatalf("with %v: opened again it has done %d, was %d, error %d", c, again.book.Count(), s.book.Count(), e)
			}
			if len(s.log) > c.Room || len(s.log) != 32*s.book.Count() {
				t.Fatalf("with %v: the log has %d bytes, %d are done", c, len(s.log), s.book.Count())
			}
			s = again
		}
	}
}

// mixed are n requests of few numbers, so that they meet.
func mixed(r *rand.Rand, n int) []api.Request {
	var l []api.Request
	for range n {
		id, cell, hold, count, time := 1+r.Intn(30), r.Intn(8), 1+r.Intn(6), 1+r.Intn(9), r.Intn(40)
		l = append(l, []api.Request{
			{ID: id, Kind: api.Receive, Cell: cell, Count: count},
			{ID: id, Kind: api.Reserve, Cell: cell, Hold: hold, Count: count, Time: time},
			{ID: id, Kind: api.Commit, Hold: hold},
			{ID: id, Kind: api.Release, Hold: hold},
			{ID: id, Kind: api.Tick, Time: time},
			{ID: id, Kind: api.Tick, Time: time, Cell: 1},
		}[r.Intn(6)])
	}
	return l
}

// Ways: the requests come in their order, by a channel that has room for all and is closed.
func TestLookedOverInOrder(t *testing.T) {
	for n := range api.MaxGroup + 1 {
		group := requests(1, n)
		for i := range group {
			group[i].Cell = i % 9 // every ninth is none
		}
		line := lookedOver(group)
		if len(line) != n || cap(line) != n {
			t.Errorf("of %d requests %d stand in line, with room for %d", n, len(line), cap(line))
		}
		i := 0
		for x := range line {
			if x != book.LookOver(group[i]) {
				t.Errorf("place %d of %d has %v", i, n, x)
			}
			i++
		}
		if i != n {
			t.Errorf("%d of %d came", i, n)
		}
	}
}
