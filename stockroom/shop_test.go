package stockroom

import (
	"math/rand"
	"slices"
	"testing"

	"stockroom/api"
	"stockroom/book"
)

func requests(first, n int) []api.Request {
	var l []api.Request
	for i := range n {
		l = append(l, api.Request{ID: first + i, Count: 1})
	}
	return l
}

// P6, P7, P10, P12: a shop that is opened by what another leaves has its book, and remembers what that one does.
func TestAShopIsOutlivedByItsFiles(t *testing.T) {
	r := rand.New(rand.NewSource(5))
	for range 300 {
		c := api.Config{Window: 1 + r.Intn(20), Group: 1 + r.Intn(16), Room: 100 + r.Intn(3000)}
		s, _ := Open(nil, c)
		for range 8 {
			s.Serve(mixed(r, r.Intn(40)))
			if r.Intn(3) == 0 {
				s.Checkpoint()
			}
			left := s.Left(r.Intn(9), "junk")
			again, e := Open(left, c)
			if e != api.OK {
				t.Fatalf("with %v: what is left may not be opened: error %d", c, e)
			}
			if again.book != s.book || !slices.Equal(again.Left(0, ""), left) {
				t.Fatalf("with %v: opened again it has done %d, was %d", c, again.book.Count(), s.book.Count())
			}
			if len(left[0].Data) > c.Room {
				t.Fatalf("with %v: the log has %d bytes", c, len(left[0].Data))
			}
			if r.Intn(2) == 0 {
				s = again
			}
		}
	}
}

// mixed are n requests of few numbers, so that they meet.
func mixed(r *rand.Rand, n int) []api.Request {
	var l []api.Request
	for range n {
		id, cell, hold, count, time := 1+r.Intn(30), r.Intn(8), 1+r.Intn(6), 1+r.Intn(9), r.Intn(40)
		l = append(l, []api.Request{
			{ID: id, Kind: api.Receive, Cell: cell, Count: count},
			{ID: id, Kind: api.Reserve, Cell: cell, Hold: hold, Count: count, Time: time},
			{ID: id, Kind: api.Commit, Hold: hold},
			{ID: id, Kind: api.Release, Hold: hold},
			{ID: id, Kind: api.Tick, Time: time},
			{ID: id, Kind: api.Tick, Time: time, Cell: 1},
		}[r.Intn(6)])
	}
	return l
}

// Ways: the requests come in their order, by a channel that has room for all and is closed.
func TestLookedOverInOrder(t *testing.T) {
	for n := range api.MaxGroup + 1 {
		group := requests(1, n)
		for i := range group {
			group[i].Cell = i % 9 // every ninth is none
		}
		line := lookedOver(group)
		if len(line) != n || cap(line) != n {
			t.Errorf("of %d requests %d stand in line, with room for %d", n, len(line), cap(line))
		}
		i := 0
		for x := range line {
			if x != book.LookOver(group[i]) {
				t.Errorf("place %d of %d has %v", i, n, x)
			}
			i++
		}
		if i != n {
			t.Errorf("%d of %d came", i, n)
		}
	}
}
