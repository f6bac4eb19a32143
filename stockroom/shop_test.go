package stockroom

import (
	"math/rand"
	"slices"
	"strings"
	"testing"

	"stockroom/api"
	"stockroom/book"
	"stockroom/frames"
)

// record is the frame of a record: seven numbers below 256.
func record(numbers ...byte) string {
	var b []byte
	for _, n := range numbers {
		b = append(b, n, 0, 0, 0)
	}
	return frames.Of(string(b))
}

func open(t *testing.T, files ...api.File) *Shop {
	t.Helper()
	s, e := Open(files, api.Config{Window: 20, Group: 16, Room: 5000})
	if s == nil || e != api.OK {
		t.Fatalf("Open = %v, %d", s, e)
	}
	return s
}

// P9: without power every question has this answer, whatever else it would have.
func TestQuestionsWithoutPower(t *testing.T) {
	s := open(t, api.File{Name: "log", Data: record(1, 1, 0, 0, 0, 5, 0) + record(2, 2, 1, 0, 7, 3, 10) + record(3, 3, 4, 0, 0, 0, 4)})
	close(s.gone)
	for _, i := range []int{-1, 0, 7, 8} {
		if c, e := s.Cell(i); c != (api.Cell{}) || e != api.ErrDown {
			t.Errorf("Cell(%d) = %v, %d", i, c, e)
		}
	}
	for _, h := range []int{0, 1, 7, 50, 51} {
		if x, e := s.Hold(h); x != (api.Hold{}) || e != api.ErrDown {
			t.Errorf("Hold(%d) = %v, %d", h, x, e)
		}
	}
	if n, e := s.Clock(); n != 0 || e != api.ErrDown {
		t.Errorf("Clock = %d, %d", n, e)
	}
	if n, e := s.Count(); n != 0 || e != api.ErrDown {
		t.Errorf("Count = %d, %d", n, e)
	}
}

func requests(first, n int) []api.Request {
	var l []api.Request
	for i := range n {
		l = append(l, api.Request{ID: first + i, Count: 1})
	}
	return l
}

// P7: without power nothing is answered, and nothing done, not even of nothing.
func TestServeWithoutPower(t *testing.T) {
	s := open(t, api.File{Name: "log", Data: record(1, 1, 0, 0, 0, 1, 0)})
	close(s.gone)
	before := *s
	for _, l := range [][]api.Request{nil, {}, {{}}, requests(1, 1), requests(1, 40)} {
		if replies, e := s.Serve(l); replies != nil || e != api.ErrDown {
			t.Errorf("Serve of %d requests = %v, %d", len(l), replies, e)
		}
	}
	if *s != before {
		t.Error("what was served without power changed the shop")
	}
}

// P6, P7, P10, P12: a shop that is opened by what another leaves has its book, and remembers what that one does.
func TestAShopIsOutlivedByItsFiles(t *testing.T) {
	r := rand.New(rand.NewSource(5))
	for range 300 {
		c := api.Config{Window: 1 + r.Intn(20), Group: 1 + r.Intn(16), Room: 100 + r.Intn(3000)}
		s, _ := Open(nil, c)
		for range 8 {
			s.Serve(mixed(r, r.Intn(40)))
			if r.Intn(3) == 0 {
				s.Checkpoint()
			}
			left := s.Left(r.Intn(9), "junk")
			again, e := Open(left, c)
			if e != api.OK {
				t.Fatalf("with %v: what is left may not be opened: error %d", c, e)
			}
			if again.book != s.book || again.disk != s.disk {
				t.Fatalf("with %v: opened again it has done %d, was %d", c, again.book.Count(), s.book.Count())
			}
			if len(left[0].Data) > c.Room {
				t.Fatalf("with %v: the log has %d bytes", c, len(left[0].Data))
			}
			if r.Intn(2) == 0 {
				s = again
			}
		}
	}
}

// P10: without power Checkpoint does nothing.
func TestCheckpointWithoutPower(t *testing.T) {
	for _, files := range [][]api.File{nil, {{Name: "log", Data: record(1, 1, 0, 0, 0, 1, 0)}}, {{Name: "snap", Data: frames.Of(strings.Repeat("\x00", 80))}}} {
		s := open(t, files...)
		close(s.gone)
		before := *s
		for range 2 {
			if e := s.Checkpoint(); e != api.ErrDown {
				t.Errorf("Checkpoint = %d", e)
			}
		}
		if *s != before {
			t.Error("a checkpoint without power changed the shop")
		}
	}
}

// P12: what is left is told when the power is gone too.
func TestLeftWithoutPower(t *testing.T) {
	log, snap := api.File{Name: "log", Data: record(1, 1, 0, 0, 0, 1, 0)}, api.File{Name: "snap", Data: frames.Of(strings.Repeat("\x00", 80))}
	for _, files := range [][]api.File{{log}, {log, snap}} {
		s := open(t, files...)
		close(s.gone)
		for _, keep := range []int{-1, 0, 1, 99} {
			if got := s.Left(keep, "junk"); !slices.Equal(got, files) {
				t.Errorf("Left(%d) = %q, want %q", keep, got, files)
			}
		}
	}
}

// mixed are n requests of few numbers, so that they meet.
func mixed(r *rand.Rand, n int) []api.Request {
	var l []api.Request
	for range n {
		id, cell, hold, count, time := 1+r.Intn(30), r.Intn(8), 1+r.Intn(6), 1+r.Intn(9), r.Intn(40)
		l = append(l, []api.Request{
			{ID: id, Kind: api.Receive, Cell: cell, Count: count},
			{ID: id, Kind: api.Reserve, Cell: cell, Hold: hold, Count: count, Time: time},
			{ID: id, Kind: api.Commit, Hold: hold},
			{ID: id, Kind: api.Release, Hold: hold},
			{ID: id, Kind: api.Tick, Time: time},
			{ID: id, Kind: api.Tick, Time: time, Cell: 1},
		}[r.Intn(6)])
	}
	return l
}

// Ways: the requests come in their order, by a channel that has room for all and is closed.
func TestLookedOverInOrder(t *testing.T) {
	for n := range api.MaxGroup + 1 {
		group := requests(1, n)
		for i := range group {
			group[i].Cell = i % 9 // every ninth is none
		}
		line := lookedOver(group)
		if len(line) != n || cap(line) != n {
			t.Errorf("of %d requests %d stand in line, with room for %d", n, len(line), cap(line))
		}
		i := 0
		for x := range line {
			if x != book.LookOver(group[i]) {
				t.Errorf("place %d of %d has %v", i, n, x)
			}
			i++
		}
		if i != n {
			t.Errorf("%d of %d came", i, n)
		}
	}
}
